import PyProof.Rows.All
import Wide.All
import OpenK.AllK
import Wide.FinOn
import HandS.ForMost
import HandS.Wide
import HandS.WideBits
import HandS.Gcd
import HandS.IsInst
import HandS.Defaults
import HandS.HeadEnd
import PyProof.ReprRoads
import PyProof.StrLawsRepr
import KE.KStateDown
import HandS.Head0
import HandS.Head1
import HandS.Head2
import HandS.HeadHook1
import HandS.HeadHook2
import HandS.HeadHook3
import HandS.HeadHook4
import HandS.Style
import HandS.Walk
import HandS.TupAny
import HandS.Zip
import HandS.Rev
import HandS.RevRange
import HandS.TryOnly
import HandS.Head3
import PySem.Challenge.RW_withinrim_k46_whole_turns_led_back_and_b
set_option Elab.async false
set_option linter.all false
set_option maxRecDepth 100000
set_option maxHeartbeats 0
/-! RimA: defs whose callers run under no guard (so that repr of nested data may be said): FnG, its calls, its end. -/
namespace Rim
open PySem PySem.Spec PyProof.Rows L2

/-- a def that keeps its promise wherever no guard runs around it -/
structure FnG (P : Program) (w : World) (K : PySem.W.Frag) (mg : Str → Option Value) (base : Heap) (CX : CXT)
    (k : Nat) (f : Addr) (fd : FuncData) (ps : List Str) (sp : Sp) : Prop where
  len : ∀ vs H Q E, sp vs H Q E → vs.length = ps.length
  run : ∀ (A : Around) (outer : List Env) (s : Shared) (H : Hp) (args : Args) (us : List Value) (vs : List V)
    (Q : VK) (E : XK), Room k A → A.guards = some [] → Env0 P w K mg base A outer s H →
    BindsTo s fd args (ps.zip us) → Vals vs us → sp vs H Q E →
    codeAny (model P w) A (.call (.ref f) args) (CR CX outer P w H s Q E) s

theorem FnG.mono {P w K mg base CX j k f fd ps sp} (F : FnG P w K mg base CX j f fd ps sp) (h : j ≤ k) :
    FnG P w K mg base CX k f fd ps sp :=
  ⟨F.len, fun A outer s H args us vs Q E hr => F.run A outer s H args us vs Q E (hr.mono h)⟩

section
variable {P : Program} {w : World} {K : PySem.W.Frag} {mg : Str → Option Value} {base : Heap} {x qual : Str}
  {params : Arguments} {body : List Stmt} {scope : Scope} {dvs : List V} {kws : List (Str × V)} {f : Addr} {fd : FuncData}

theorem FnG.of {CX : CXT} {N ps : List Str} {k : Nat} {sp : Sp} (F : FunD K x qual params body scope dvs kws f fd)
    (S : FnScope N ps scope) (len : ∀ vs H Q E, sp vs H Q E → vs.length = ps.length)
    (hb : ∀ (cdv : Value) (A : Around) (outer : List Env) (s : Shared) (H : Hp) (vs : List V) (Q : VK) (E : XK),
      Room k (A.deeper (envOfC qual scope s.heap.objs.size f cdv)) → A.guards = some [] → sp vs H Q E →
      ∃ t, PSs (cxOf CX P w K mg base N qual scope f cdv A outer s H E) body t ∧
        t { nx := fun _ H' => Q .non H', rt := Q } (start N vs) H) :
    FnG P w K mg base CX (k + 1) f fd ps sp := by
  obtain ⟨oc, od, dV, kV, doc, pm, an, cdv, ct, osl, rfl, lk, hcd, _, _⟩ := F.ex
  refine ⟨len, fun A outer s H args us vs Q E hr hg e0 hbi r hsp => ?_⟩
  have hl := len _ _ _ _ hsp
  have base_in : ∀ b o, base.get? b = some o → s.heap.get? b = some o := fun b o e => (e0.bs b o e).1
  have KX : K.In s.heap := e0.mod.kin.keeps base_in
  have lim : s.heap.NoLimit := e0.mod.nolimit.keeps base_in
  have hkind : ∀ y ∈ ps.zip us, scope.names.lookup y.1 = some .local ∨
      (scope.names.lookup y.1 = some .cell ∧
        ((cellsFrom (s.heap.objs.size + 1) scope.names []).lookup y.1).isSome = true) := by
    rintro ⟨n, v⟩ hy
    rcases S.par n (List.of_mem_zip hy).1 with q | q
    · exact Or.inl q
    · exact Or.inr ⟨q, PySem.W.cellsFrom_some _ _ _ (Or.inl q)⟩
  refine codeAny_call_function hr.depth (KX _ _ lk) rfl S.co S.gen rfl (PySem.W.codeRec_of KX hcd) (hbi _ _ _ _ ?_)
  refine wpAny_newFunctionEnv_cells S.kind hkind fun env he s1 z => ?_
  subst he
  refine ⟨lim.keeps z.toInCall.keep, codeAny_func ?_⟩
  obtain ⟨t, ht, hq⟩ := hb cdv A outer s H vs Q E (hr.deeper _) hg hsp
  have I := inv_start (CX := CX) (E := E) S hr.hd e0 hl r z
  refine wpAny_mono (ht.run [] s1 (start N vs) H _ I hq) (fun fl s' hs => ?_) fun e s' hs => hs
  cases fl with
  | ret u =>
    obtain ⟨v, σ', H', J, rv, q⟩ := hs
    exact ⟨v, H', J.os, J.bare, J.base, J.hok, rv, q⟩
  | next =>
    obtain ⟨σ', H', J, q⟩ := hs
    exact ⟨V.non, H', J.os, J.bare, J.base, J.hok, rfl, q⟩
  | brk =>
    obtain ⟨_, _, _, q⟩ := hs
    exact False.elim q
  | cont =>
    obtain ⟨_, _, _, q⟩ := hs
    exact False.elim q
end

section
variable {X : Cx} {CX : CXT} {k n : Nat} {f : Addr} {fd : FuncData} {ps ks : List Str} {sp : Sp} {dvs : List V}
  {ds : List Value} {E : XK} {x : Str} {p pos : Pos} {e : Expr} {es : List Expr} {kws : List Keyword} {t tk : TA}
  {g : List Value → List Value → List Value} {gV : List V → List V → List V}

theorem back_of {pins : List (Addr × Obj)} {σ : L2.St} {H : Hp} {s : Shared} {Q : VK} (hx : Passes CX X E)
    (I : Inv X pins σ H s) (r : Result) (s' : Shared) (hq : CR CX X.stack X.prog X.w H s Q E r s') :
    (match r with
      | .ok (.ret u) => EP X pins σ Q u s'
      | .ok _ => False
      | .error e => X.xe e s') := by
  cases r with
  | error e => exact hx pins σ H s e s' I hq
  | ok fl =>
    cases fl with
    | ret u => exact I.after hq
    | next => exact False.elim hq
    | brk => exact False.elim hq
    | cont => exact False.elim hq

/-- f(e, ..), f of FnG -/
theorem pe_callG (F : FnG X.prog X.w X.K X.mg X.base CX k f fd ps sp) (hr : Room k X.A) (hgu : X.A.guards = some [])
    (hg : Gl X x) (hm : X.mg x = some (.ref f)) (hk : PySem.W.keepIn X.K (.ref f) = true) (hb : Binds X.K fd ps ds)
    (hd : Vals dvs ds) (hx : Passes CX X E) (ha : PA X (e :: es) t)
    (hdb : (x == ("__debug__" : Str)) = false := by decide)
    (he : starEach (e :: es) X.env = (false, eval e X.env) :: starEach es X.env := by rfl)
    (hpl : (backTo pos (starEach es X.env)).any (·.1) = false := by rfl) :
    PE X (.Call (.Name x p) (e :: es) [] pos) (tCall sp dvs E t) := by
  constructor
  intro pins s σ H Q I h
  refine wpAny_Call_Name_kw (ld_glob I hg hm ?_ hdb)
  refine PySem.W.callWith_K (h₀ := X.base) I.ok.mod.kin hk (thn (ha.run pos pins s σ H _ I h) ?_) he hpl
  rintro us s1 ⟨vs, H1, I1, r, q⟩
  refine ⟨I1.kIn, ?_⟩
  have r2 := r.append hd
  have hl : (us ++ ds).length = ps.length := by
    rw [← r2.length]
    exact F.len _ _ _ _ q
  refine wpAny_call (codeAny_mono (F.run X.A X.stack s1 H1 ⟨us, []⟩ (us ++ ds) (vs ++ dvs) Q E hr hgu I1.env0
    (hb s1 us I1.kIn hl) r2 q) fun r s' hq => ?_)
  have z := back_of hx I1 r s' hq
  cases r with
  | error e => exact z
  | ok fl => cases fl <;> exact z

/-- f(e, .., k = v, ..), also without a positional value -/
theorem pe_callGK (F : FnG X.prog X.w X.K X.mg X.base CX k f fd ps sp) (hr : Room k X.A) (hgu : X.A.guards = some [])
    (hg : Gl X x) (hm : X.mg x = some (.ref f)) (hk : PySem.W.keepIn X.K (.ref f) = true)
    (hb : KBn X.K fd ps 0 ks g gV) (hx : Passes CX X E) (hkw : PK X kws tk)
    (hall : (backToKw pos (keywordEach kws X.env)).all (·.1.isSome) = true := by rfl)
    (hks : (backToKw pos (keywordEach kws X.env)).filterMap (·.1) = ks := by rfl)
    (hdb : (x == ("__debug__" : Str)) = false := by decide)
    (hpl : ((backTo pos (starEach [] X.env)).any (·.1) || (backToKw pos (keywordEach kws X.env)).any (·.1.isNone)) = false := by rfl) :
    PE X (.Call (.Name x p) [] kws pos) (tCallN 0 ks.length sp gV E tNil tk) := by
  constructor
  intro pins s σ H Q I h
  refine wpAny_Call_Name_kw (ld_glob I hg hm ?_ hdb)
  refine PySem.W.callWith_KW0 (h₀ := X.base) I.ok.mod.kin hk hall ?_ hpl
  refine thn (hkw.run pos pins s σ H _ I h) ?_
  rintro ws s2 ⟨zs, H2, I2, rz, _, l2, q2⟩
  refine ⟨I2.kIn, ?_⟩
  rw [hks]
  have r2 := hb.rel (vs := []) (us := []) .nil rz
  refine wpAny_call (codeAny_mono (F.run X.A X.stack s2 H2 ⟨[], ks.zip ws⟩ (g [] ws) (gV [] zs) Q E hr hgu I2.env0
    (hb.to s2 [] ws I2.kIn rfl (rz.length.symm.trans l2)) r2 q2) fun r s' hq => ?_)
  have z := back_of hx I2 r s' hq
  cases r with
  | error e => exact z
  | ok fl => cases fl <;> exact z
end

/-! ### the law's end -/
theorem law_callG {P : Program} {w : World} {K : PySem.W.Frag} {mg mb : Str → Option Value} {k : Nat} {fa a : Addr}
    {fd : FuncData} {x : Str} {sp : Sp} {s₁ : Shared} {vs : List Value} {ns : List Int}
    (KX : K.In s₁.heap) (hns : s₁.heap.Ns mainGlobals mg) (hb : s₁.heap.Ns builtinsNs mb)
    (hbb : ∀ x : Str, x ≠ "__name__" → mb x = bootBuiltins x) (hlim : s₁.heap.NoLimit) (hg : s₁.gens = #[])
    (ha : s₁.heap.get? a = some { cls := .type "list", data := .seq vs.toArray }) (hi : IntsAre vs ns)
    (hl : ns.length ≤ sizeLine) (hr : Room k callerA)
    (F : ∀ base : Heap, K.In base → base.Ns mainGlobals mg → FnG P w K mg base CX0 k fa fd [x] sp)
    (hbind : ∀ (s : Shared) (u : Value), BindsTo s fd ⟨[u], []⟩ [(x, u)])
    (hsp : ∀ H : Hp, Only H → SqL K H a (ns.map V.int) → sp [.ref a] H (fun v _ => v = .bl true) fun _ _ _ => False) :
    codeAny (model P w) callerA (.call (.ref fa) ⟨[.ref a], []⟩)
      (fun r s' => r = .ok (.ret (.bool true)) ∧ OldK s₁.heap s'.heap ∧ s'.os = s₁.os ∧ AllBare s'.gens) s₁ := by
  have rv := vals_ints hi
  -- once for whatever the heap tracks at the entry
  have core : ∀ H : Hp, Only H → SqL K H a (ns.map V.int) → HOk P w H s₁.heap → (∀ b, H b ≠ none → b = a) →
      (H a ≠ none → K.lookup a = none) →
      codeAny (model P w) callerA (.call (.ref fa) ⟨[.ref a], []⟩)
        (fun r s' => r = .ok (.ret (.bool true)) ∧ OldK s₁.heap s'.heap ∧ s'.os = s₁.os ∧ AllBare s'.gens) s₁ := by
    intro H hO hS hok hA hK
    have untracked : ∀ b, b ≠ a → H b = none := fun b hne => by
      cases q : H b with
      | none => rfl
      | some u => exact absurd (hA b (by rw [q]; simp)) hne
    have in_base : ∀ {b : Addr} {o : Obj}, s₁.heap.get? b = some o → H b = none → (hidT s₁.heap H).get? b = some o :=
      fun e n => hidT_get e n
    have dict_free : ∀ {b : Addr} {o : Obj} {es : Array DictEntry} {ep : Nat}, s₁.heap.get? b = some o →
        o.data = .dict es ep → H b = none := by
      intro b o es ep e d
      by_cases hba : b = a
      · subst hba
        rw [ha] at e
        cases e
        cases (show Data.seq vs.toArray _ = Data.dict es ep from d)
      · exact untracked b hba
    have ns_base : ∀ {b : Addr} {m : Str → Option Value}, s₁.heap.Ns b m → (hidT s₁.heap H).Ns b m := by
      rintro b m ⟨o, es, ep, e, d, r⟩
      exact ⟨o, es, ep, in_base e (dict_free e d), d, r⟩
    have k_base : K.In (hidT s₁.heap H) := by
      intro b o e
      refine in_base (KX b o e) ?_
      by_cases hba : b = a
      · subst hba
        cases q : H b with
        | none => rfl
        | some u =>
          rw [hK (by rw [q]; simp)] at e
          cases e
      · exact untracked b hba
    have hM : Mod K mg (hidT s₁.heap H) := by
      obtain ⟨mc, h1, h2⟩ := hlim
      exact ⟨k_base, ns_base hns, ⟨mb, ns_base hb, hbb⟩, ⟨mc, ns_base h1, h2⟩⟩
    have e0 : Env0 P w K mg (hidT s₁.heap H) callerA [] s₁ H :=
      ⟨rfl, hM, fun b o e => of_hidT e, Nat.le_of_eq (hidT_size _ _), trivial,
        fun b hb => absurd (show b ∈ ([] : List Addr) from hb) (by simp), hok, .of_eq hg⟩
    refine codeAny_mono ((F _ k_base (ns_base hns)).run callerA [] s₁ H ⟨[.ref a], []⟩ [.ref a] [.ref a] _ _ hr rfl e0
      (hbind s₁ (.ref a)) (.cons rfl .nil) (hsp H hO hS)) fun r s' h => ?_
    cases r with
    | error e => exact False.elim h
    | ok fl =>
      cases fl with
      | next => exact False.elim h
      | brk => exact False.elim h
      | cont => exact False.elim h
      | ret u =>
        obtain ⟨v, H', os, bare, un, hok', r', q⟩ := h
        have q' : v = .bl true := q
        subst q'
        obtain rfl : u = Value.bool true := r'
        refine ⟨rfl, OldK.of_keep fun b o e => ?_, os, bare⟩
        cases q : H b with
        | none =>
          exact un.keep b o e q (fun z => absurd (show b ∈ ([] : List Addr) from z) (by simp)) (by simp)
        | some u =>
          rcases hO b with z | ⟨ob, xs, z⟩
          · rw [q] at z
            cases z
          · obtain ⟨e1, _⟩ := hok b _ z
            obtain ⟨e2, _⟩ := hok' b _ (un.frzs b ob _ z)
            rw [e] at e1
            cases e1
            exact e2
  have lenV := hi.length
  cases hk : K.lookup a with
  | some o =>
    have e := KX a o hk
    rw [ha] at e
    cases e
    have none_ne : ∀ b, (fun _ => none : Hp) b ≠ none → b = a := fun b z => absurd rfl z
    refine core (fun _ => none) (fun _ => Or.inl rfl) (Or.inr ⟨_, vs.toArray, _, hk, rfl, rfl, rfl, ?_, ?_⟩)
      (fun b u z => ?_) none_ne fun z => absurd rfl z
    · rw [List.size_toArray, lenV]
      exact hl
    · simpa using rv
    · cases (show (none : Option HO) = some u from z)
  | none =>
    let H0 : Hp := upd (fun _ => none) a (.frz { cls := .type "list", data := .seq vs.toArray } (.lst (ns.map V.int)))
    have h0 : H0 a = some (.frz { cls := .type "list", data := .seq vs.toArray } (.lst (ns.map V.int))) := upd_same
    have h1 : ∀ b, b ≠ a → H0 b = none := fun b hne => upd_ne hne
    refine core H0 (fun b => ?_) (Or.inl (Or.inr ⟨_, h0⟩)) (fun b u z => ?_) (fun b z => ?_) fun _ => hk
    · by_cases hba : b = a
      · subst hba
        exact Or.inr ⟨_, _, h0⟩
      · exact Or.inl (h1 b hba)
    · by_cases hba : b = a
      · subst hba
        rw [h0] at z
        cases z
        exact ⟨ha, by rw [List.length_map]; exact hl, vs, _, rv, ha⟩
      · rw [h1 b hba] at z
        cases z
    · by_cases hba : b = a
      · exact hba
      · exact absurd (h1 b hba) z

theorem walk_ofG {l : PySem.W.OpenLaw} {n k : Nat} {q : Program} {loose : List Str}
    {XP : (Str → Option Value) → Heap → Prop} {YP : World → Heap → Prop} {d : DefRec} {x : Str}
    (hn : l.most = some n) (hn2 : n ≤ sizeLine) (hdf : d.params.defaults = []) (hr : Room k callerA)
    (F : ∀ (w : World) (mg : Str → Option Value) (fa : Addr) (h : Heap), YP w h → h.Ns mainGlobals mg →
      mg d.name = some (.ref fa) → ∃ (K : PySem.W.Frag) (fd : FuncData) (sp : Sp), K.In h ∧
        (∀ (s : Shared) (u : Value), BindsTo s fd ⟨[u], []⟩ [(x, u)]) ∧
        (∀ (H : Hp) (a : Addr) (ns : List Int), ns.length ≤ n → Only H → SqL K H a (ns.map V.int) →
          sp [.ref a] H (fun v _ => v = .bl true) fun _ _ _ => False) ∧
        ∀ base : Heap, K.In base → base.Ns mainGlobals mg → FnG l.prog w K mg base CX0 k fa fd [x] sp) :
    PySem.W.WalkO q loose XP YP l.row.toRowW d [] (fun f vs => PySem.call f vs) := by
  refine Att.attach_call hn hdf fun w s₀ s₁ mg mb fa o pm cd doc a vs ns G Y ho hd hcd hmg hobj hints hlen hg => ?_
  obtain ⟨K, fd, sp, KX, hb, hsp, hF⟩ := F w mg fa _ Y G.T.g hmg
  exact law_callG KX G.T.g G.T.b G.T.builtins G.T.nolimit hg hobj hints (Nat.le_trans hlen hn2) hr hF hb
    fun H hO hS => hsp H a ns hlen hO hS
end Rim

/-! RimW: what a def does to data: readings of the hand layer as rules over PyData, without a heap. -/
namespace Rim
open PySem PySem.Spec L2

/-! ### data stay while the heap grows -/
section
variable {K : PySem.W.Frag} {G G' : Hp}
theorem sqT_mono {a : Addr} {xs : List V} (e : Same G G') (h : SqT K G a xs) : SqT K G' a xs := by
  rcases h with (h | ⟨o, h⟩) | h
  · exact Or.inl (Or.inl (e _ _ h))
  · exact Or.inl (Or.inr ⟨o, e _ _ h⟩)
  · exact Or.inr h
mutual
theorem dp_mono (e : Same G G') : ∀ (d : PyData) (v : V), Dp K G v d → Dp K G' v d
  | .none, _, h => by cases h; exact .non
  | .bool b, _, h => by cases h; exact .bl b
  | .int i, _, h => by cases h; exact .int i
  | .str x, _, h => by cases h; exact .str x
  | .list ds, _, h => by
    cases h with
    | lst hs ha => exact .lst (e.seq hs) (dpA_mono e ds _ ha)
  | .tuple ds, _, h => by
    cases h with
    | tup hs ha => exact .tup (sqT_mono e hs) (dpA_mono e ds _ ha)
  | .dict _, _, h => by cases h
theorem dpA_mono (e : Same G G') : ∀ (ds : List PyData) (vs : List V), DpAll K G vs ds → DpAll K G' vs ds
  | [], _, h => by cases h; exact .nil
  | d :: ds, _, h => by
    cases h with
    | cons h1 h2 => exact .cons (dp_mono e d _ h1) (dpA_mono e ds _ h2)
end
theorem dpA_len : ∀ {vs : List V} {ds : List PyData}, DpAll K G vs ds → vs.length = ds.length
  | _, _, .nil => rfl
  | _, _, .cons _ t => by rw [List.length_cons, List.length_cons, dpA_len t]
theorem dpA_get : ∀ {vs : List V} {ds : List PyData} {i : Nat} {d : PyData}, DpAll K G vs ds → ds[i]? = some d →
    ∃ v, vs[i]? = some v ∧ Dp K G v d
  | _, _, _, _, .nil, h => by simp at h
  | _, _, 0, d, .cons a _, h => by
    simp at h
    subst h
    exact ⟨_, rfl, a⟩
  | _, _, i + 1, d, .cons _ t, h => by
    obtain ⟨v, h1, h2⟩ := dpA_get (i := i) t (by simpa using h)
    exact ⟨v, by simpa using h1, h2⟩
theorem dpA_at {vs : List V} {ds : List PyData} {i : Nat} {v : V} (h : DpAll K G vs ds) (hv : vs[i]? = some v) :
    ∃ d, ds[i]? = some d ∧ Dp K G v d := by
  have hl := dpA_len h
  have hi : i < vs.length := (List.getElem?_eq_some_iff.mp hv).1
  have hd : ds[i]? = some (ds[i]'(by omega)) := List.getElem?_eq_getElem (by omega)
  obtain ⟨w, h1, h2⟩ := dpA_get h hd
  rw [hv] at h1
  cases h1
  exact ⟨_, hd, h2⟩
theorem dpA_append : ∀ {vs us : List V} {ds es : List PyData}, DpAll K G vs ds → DpAll K G us es → DpAll K G (vs ++ us) (ds ++ es)
  | _, _, _, _, .nil, h => h
  | _, _, _, _, .cons a t, h => .cons a (dpA_append t h)
theorem dpA_set {v : V} {d : PyData} (hd : Dp K G v d) : ∀ {vs : List V} {ds : List PyData} (i : Nat), DpAll K G vs ds →
    DpAll K G (vs.set i v) (ds.set i d)
  | _, _, _, .nil => .nil
  | _, _, 0, .cons _ t => .cons hd t
  | _, _, i + 1, .cons a t => .cons a (dpA_set hd i t)
theorem dpA_take : ∀ {vs : List V} {ds : List PyData} (n : Nat), DpAll K G vs ds → DpAll K G (vs.take n) (ds.take n)
  | _, _, 0, _ => by simp only [List.take_zero]; exact .nil
  | _, _, n + 1, .nil => by simp only [List.take_nil]; exact .nil
  | _, _, n + 1, .cons a t => by simp only [List.take_succ_cons]; exact .cons a (dpA_take n t)
theorem dpA_drop : ∀ {vs : List V} {ds : List PyData} (n : Nat), DpAll K G vs ds → DpAll K G (vs.drop n) (ds.drop n)
  | _, _, 0, h => by simpa only [List.drop_zero] using h
  | _, _, n + 1, .nil => by simp only [List.drop_nil]; exact .nil
  | _, _, n + 1, .cons _ t => by simp only [List.drop_succ_cons]; exact dpA_drop n t
theorem dp_int {v : V} {i : Int} (h : Dp K G v (.int i)) : v = .int i := by cases h; rfl
theorem dp_bl {v : V} {b : Bool} (h : Dp K G v (.bool b)) : v = .bl b := by cases h; rfl
theorem dp_str {v : V} {x : Str} (h : Dp K G v (.str x)) : v = .str x := by cases h; rfl
theorem dp_tup {v : V} {ds : List PyData} (h : Dp K G v (.tuple ds)) : ∃ a xs, v = .ref a ∧ SqT K G a xs ∧ DpAll K G xs ds := by
  cases h with
  | tup hs ha => exact ⟨_, _, rfl, hs, ha⟩
theorem dp_lst {v : V} {ds : List PyData} (h : Dp K G v (.list ds)) : ∃ a xs, v = .ref a ∧ SqL K G a xs ∧ DpAll K G xs ds := by
  cases h with
  | lst hs ha => exact ⟨_, _, rfl, hs, ha⟩
end

/-! ### states -/
/-- a list of three ints that draws change -/
def Pail (H : Hp) (a : Addr) : Prop := ∃ x y z : Int, H a = some (.lst [.int x, .int y, .int z]) ∧ (0 ≤ y ∧ y < 2147483648)
/-- G: the part of H that nobody changes; p: where the pail stands, if one is at hand -/
structure J (p : Option Addr) (G H : Hp) : Prop where
  sub : Same G H
  pl : ∀ a, p = some a → G a = none ∧ Pail H a
structure Xt (p : Option Addr) (G H G' H' : Hp) : Prop where
  gg : Same G G'
  hh : ∀ a o, p ≠ some a → H a = some o → H' a = some o
  fr : ∀ a, p ≠ some a → H a ≠ none → G a = none → G' a = none
section
variable {p : Option Addr} {G H G1 H1 G2 H2 : Hp}
theorem Xt.refl : Xt p G H G H := ⟨Same.refl G, fun _ _ _ h => h, fun _ _ _ h => h⟩
theorem Xt.trans (a : Xt p G H G1 H1) (b : Xt p G1 H1 G2 H2) : Xt p G H G2 H2 :=
  ⟨a.gg.trans b.gg, fun x o hp h => b.hh x o hp (a.hh x o hp h), fun x hp hH hG => by
    refine b.fr x hp ?_ (a.fr x hp hH hG)
    cases q : H x with
    | none => exact absurd q hH
    | some o =>
      rw [a.hh x o hp q]
      exact Option.some_ne_none o⟩

theorem J.free (j : J p G H) {l : Addr} (h : H l = none) : G l = none := j.sub.free h
theorem J.ne (j : J p G H) {l : Addr} (h : H l = none) : p ≠ some l := fun q => by
  obtain ⟨_, x, y, z, e, _⟩ := j.pl l q
  rw [h] at e
  cases e
/-- a new object that nobody will change -/
theorem Xt.laid (j : J p G H) {l : Addr} {o : HO} (h : H l = none) : Xt p G H (upd G l o) (upd H l o) := by
  refine ⟨fun a u e => ?_, fun a u _ e => ?_, fun a _ hH hG => ?_⟩
  · rw [upd_ne (ne_of_none e (j.free h))]; exact e
  · rw [upd_ne (ne_of_none e h)]; exact e
  · have hne : a ≠ l := fun q => hH (by rw [q]; exact h)
    rw [upd_ne hne]; exact hG
theorem J.laid (j : J p G H) {l : Addr} {o : HO} (h : H l = none) : J p (upd G l o) (upd H l o) := by
  refine ⟨fun a u e => ?_, fun a ha => ?_⟩
  · by_cases q : a = l
    · subst q
      rw [upd_same] at e ⊢
      exact e
    · rw [upd_ne q] at e ⊢
      exact j.sub a u e
  · have hne : a ≠ l := fun q => j.ne h (by rw [← q]; exact ha)
    obtain ⟨h1, x, y, z, h2⟩ := j.pl a ha
    exact ⟨by rw [upd_ne hne]; exact h1, x, y, z, by rw [upd_ne hne]; exact h2⟩
/-- a new object of one's own -/
theorem Xt.made (j : J p G H) {l : Addr} {o : HO} (h : H l = none) : Xt p G H G (upd H l o) :=
  ⟨Same.refl G, fun a u _ e => by rw [upd_ne (ne_of_none e h)]; exact e, fun _ _ _ h => h⟩
theorem J.made (j : J p G H) {l : Addr} {o : HO} (h : G l = none) (hp : p ≠ some l) : J p G (upd H l o) := by
  refine ⟨fun a u e => ?_, fun a ha => ?_⟩
  · rw [upd_ne (ne_of_none e h)]; exact j.sub a u e
  · have hne : a ≠ l := fun q => hp (by rw [← q]; exact ha)
    obtain ⟨h1, x, y, z, h2⟩ := j.pl a ha
    exact ⟨h1, x, y, z, by rw [upd_ne hne]; exact h2⟩
/-- an object of one's own becomes one that nobody changes -/
theorem J.frozen (j : J p G H) {l : Addr} {o : HO} (h : H l = some o) (hp : p ≠ some l) : J p (upd G l o) H := by
  refine ⟨fun a u e => ?_, fun a ha => ?_⟩
  · by_cases q : a = l
    · subst q
      rw [upd_same] at e
      rw [h]; exact e
    · rw [upd_ne q] at e
      exact j.sub a u e
  · have hne : a ≠ l := fun q => hp (by rw [← q]; exact ha)
    obtain ⟨h1, h2⟩ := j.pl a ha
    exact ⟨by rw [upd_ne hne]; exact h1, h2⟩
end

/-! ### slots -/
inductive Sl where
  | un
  | d (x : PyData)
  | m (xs : List PyData)
  | v (x : V)
abbrev Ev := List Sl
def SlOk (K : PySem.W.Frag) (p : Option Addr) (H0 G H : Hp) (x : Option (Option V)) : Sl → Prop
  | .un => True
  | .d d => ∃ v, x = some (some v) ∧ Dp K G v d
  | .m ds => ∃ l vs, x = some (some (.ref l)) ∧ H l = some (.lst vs) ∧ DpAll K G vs ds ∧ G l = none ∧ p ≠ some l ∧ H0 l = none
  | .v v => x = some (some v)
structure EnvOk (K : PySem.W.Frag) (p : Option Addr) (H0 G H : Hp) (σ : L2.St) (E : Ev) : Prop where
  len : σ.length = E.length
  at_ : ∀ (i : Nat) (s : Sl), E[i]? = some s → SlOk K p H0 G H (σ[i]?) s
  ap : ∀ (i j : Nat) (ds es : List PyData) (l : Addr), i ≠ j → E[i]? = some (.m ds) → E[j]? = some (.m es) →
    σ[i]? = some (some (.ref l)) → σ[j]? ≠ some (some (.ref l))
section
variable {K : PySem.W.Frag} {p : Option Addr} {H0 G H G1 H1 : Hp} {σ : L2.St} {E : Ev}
theorem EnvOk.mono (e : EnvOk K p H0 G H σ E) (x : Xt p G H G1 H1) : EnvOk K p H0 G1 H1 σ E := by
  refine ⟨e.len, fun i s h => ?_, e.ap⟩
  have q := e.at_ i s h
  cases s with
  | un => trivial
  | d d =>
    obtain ⟨v, h1, h2⟩ := q
    exact ⟨v, h1, dp_mono x.gg d v h2⟩
  | m ds =>
    obtain ⟨l, vs, h1, h2, h3, h4, h5, h6⟩ := q
    exact ⟨l, vs, h1, x.hh l _ h5 h2, dpA_mono x.gg ds vs h3, x.fr l h5 (by rw [h2]; exact Option.some_ne_none _) h4, h5, h6⟩
  | v v => exact q
theorem EnvOk.dat (e : EnvOk K p H0 G H σ E) {i : Nat} {d : PyData} (h : E[i]? = some (.d d)) : ∃ v, σ[i]? = some (some v) ∧ Dp K G v d := e.at_ i _ h
theorem EnvOk.val (e : EnvOk K p H0 G H σ E) {i : Nat} {v : V} (h : E[i]? = some (.v v)) : σ[i]? = some (some v) := e.at_ i _ h
theorem EnvOk.own (e : EnvOk K p H0 G H σ E) {i : Nat} {ds : List PyData} (h : E[i]? = some (.m ds)) :
    ∃ l vs, σ[i]? = some (some (.ref l)) ∧ H l = some (.lst vs) ∧ DpAll K G vs ds ∧ G l = none ∧ p ≠ some l ∧ H0 l = none := e.at_ i _ h
theorem EnvOk.has (e : EnvOk K p H0 G H σ E) {i : Nat} {s : Sl} (h : E[i]? = some s) : i < σ.length := by
  rw [e.len]
  exact (List.getElem?_eq_some_iff.mp h).1
theorem get_set {α : Type} {l : List α} {i j : Nat} {x : α} (hi : i < l.length) : (l.set i x)[j]? = if j = i then some x else l[j]? := by
  by_cases q : j = i
  · subst q
    rw [if_pos rfl, List.getElem?_set_self hi]
  · rw [if_neg q, List.getElem?_set_ne (Ne.symm q)]
/-- a slot takes data -/
theorem EnvOk.setD (e : EnvOk K p H0 G H σ E) {i : Nat} {v : V} {d : PyData} (hi : i < σ.length) (h : Dp K G v d) : EnvOk K p H0 G H (σ.set i (some v)) (E.set i (.d d)) := by
  have hE : i < E.length := by rw [← e.len]; exact hi
  refine ⟨by rw [List.length_set, List.length_set]; exact e.len, fun j s hs => ?_, fun a b ds es l hab ha hb h1 => ?_⟩
  · rw [get_set hE] at hs
    rw [get_set hi]
    by_cases q : j = i
    · rw [if_pos q] at hs ⊢
      cases hs
      exact ⟨v, rfl, h⟩
    · rw [if_neg q] at hs ⊢
      exact e.at_ j s hs
  · rw [get_set hE] at ha hb
    rw [get_set hi] at h1 ⊢
    by_cases qa : a = i
    · rw [if_pos qa] at ha
      cases ha
    · by_cases qb : b = i
      · rw [if_pos qb] at hb
        cases hb
      · rw [if_neg qa] at ha h1
        rw [if_neg qb] at hb ⊢
        exact e.ap a b ds es l hab ha hb h1
/-- a slot is forgotten -/
theorem EnvOk.setU (e : EnvOk K p H0 G H σ E) {i : Nat} {x : Option V} : EnvOk K p H0 G H (σ.set i x) (E.set i .un) := by
  by_cases hi : i < σ.length
  · have hE : i < E.length := by rw [← e.len]; exact hi
    refine ⟨by rw [List.length_set, List.length_set]; exact e.len, fun j s hs => ?_, fun a b ds es l hab ha hb h1 => ?_⟩
    · rw [get_set hE] at hs
      rw [get_set hi]
      by_cases q : j = i
      · rw [if_pos q] at hs ⊢
        cases hs
        trivial
      · rw [if_neg q] at hs ⊢
        exact e.at_ j s hs
    · rw [get_set hE] at ha hb
      rw [get_set hi] at h1 ⊢
      by_cases qa : a = i
      · rw [if_pos qa] at ha
        cases ha
      · by_cases qb : b = i
        · rw [if_pos qb] at hb
          cases hb
        · rw [if_neg qa] at ha h1
          rw [if_neg qb] at hb ⊢
          exact e.ap a b ds es l hab ha hb h1
  · have hE : ¬ i < E.length := by rw [← e.len]; exact hi
    rw [List.set_eq_of_length_le (by omega), List.set_eq_of_length_le (by omega)]
    exact e
/-- what is known of a slot is forgotten -/
theorem EnvOk.drop (e : EnvOk K p H0 G H σ E) (i : Nat) : EnvOk K p H0 G H σ (E.set i .un) := by
  by_cases hi : i < E.length
  · refine ⟨by rw [List.length_set]; exact e.len, fun j s hs => ?_, fun a b ds es l hab ha hb h1 => ?_⟩
    · rw [get_set hi] at hs
      by_cases q : j = i
      · rw [if_pos q] at hs
        cases hs
        trivial
      · rw [if_neg q] at hs
        exact e.at_ j s hs
    · rw [get_set hi] at ha hb
      by_cases qa : a = i
      · rw [if_pos qa] at ha
        cases ha
      · by_cases qb : b = i
        · rw [if_pos qb] at hb
          cases hb
        · rw [if_neg qa] at ha
          rw [if_neg qb] at hb
          exact e.ap a b ds es l hab ha hb h1
  · rw [List.set_eq_of_length_le (by omega)]
    exact e
/-- a slot takes a new list of its own -/
theorem EnvOk.setM (e : EnvOk K p H0 G H σ E) {i : Nat} {l : Addr} {vs : List V} {ds : List PyData} (hi : i < σ.length)
    (hn : ∀ (j : Nat) (es : List PyData) (m : Addr), E[j]? = some (.m es) → σ[j]? = some (some (.ref m)) → m ≠ l)
    (h : H l = some (.lst vs)) (hd : DpAll K G vs ds) (hg : G l = none) (hp : p ≠ some l) (h0 : H0 l = none) : EnvOk K p H0 G H (σ.set i (some (.ref l))) (E.set i (.m ds)) := by
  have hE : i < E.length := by rw [← e.len]; exact hi
  refine ⟨by rw [List.length_set, List.length_set]; exact e.len, fun j s hs => ?_, fun a b ds' es m hab ha hb h1 => ?_⟩
  · rw [get_set hE] at hs
    rw [get_set hi]
    by_cases q : j = i
    · rw [if_pos q] at hs ⊢
      cases hs
      exact ⟨l, vs, rfl, h, hd, hg, hp, h0⟩
    · rw [if_neg q] at hs ⊢
      exact e.at_ j s hs
  · rw [get_set hE] at ha hb
    rw [get_set hi] at h1 ⊢
    by_cases qa : a = i
    · by_cases qb : b = i
      · exact absurd (qa.trans qb.symm) hab
      · rw [if_neg qb] at hb ⊢
        rw [if_pos qa] at h1
        cases h1
        exact fun z => hn b es _ hb z rfl
    · by_cases qb : b = i
      · rw [if_neg qa] at ha h1
        rw [if_pos qb]
        intro z
        cases z
        exact hn a ds' _ ha h1 rfl
      · rw [if_neg qa] at ha h1
        rw [if_neg qb] at hb ⊢
        exact e.ap a b ds' es m hab ha hb h1
/-- the list in a slot is changed -/
theorem EnvOk.chg (e : EnvOk K p H0 G H σ E) {i : Nat} {l : Addr} {vs us : List V} {ds es : List PyData} (hs : E[i]? = some (.m ds)) (hl : σ[i]? = some (some (.ref l)))
    (h : H l = some (.lst vs)) (hd : DpAll K G us es) (hg : G l = none) (hp : p ≠ some l) (h0 : H0 l = none) : EnvOk K p H0 G (upd H l (.lst us)) σ (E.set i (.m es)) := by
  have hE : i < E.length := (List.getElem?_eq_some_iff.mp hs).1
  refine ⟨by rw [List.length_set]; exact e.len, fun j s hs' => ?_, fun a b ds' es' m hab ha hb h1 => ?_⟩
  · rw [get_set hE] at hs'
    by_cases q : j = i
    · rw [if_pos q] at hs'
      cases hs'
      exact ⟨l, us, by rw [q]; exact hl, upd_same, hd, hg, hp, h0⟩
    · rw [if_neg q] at hs'
      have z := e.at_ j s hs'
      cases s with
      | un => trivial
      | d d => exact z
      | v v => exact z
      | m fs =>
        obtain ⟨m, ws, z1, z2, z3⟩ := z
        have hne : m ≠ l := fun w => e.ap i j ds fs l (Ne.symm q) hs hs' hl (by rw [← w]; exact z1)
        exact ⟨m, ws, z1, by rw [upd_ne hne]; exact z2, z3⟩
  · rw [get_set hE] at ha hb
    have ha' : ∃ q, E[a]? = some (.m q) := by
      by_cases qa : a = i
      · exact ⟨ds, by rw [qa]; exact hs⟩
      · rw [if_neg qa] at ha
        exact ⟨_, ha⟩
    have hb' : ∃ q, E[b]? = some (.m q) := by
      by_cases qb : b = i
      · exact ⟨ds, by rw [qb]; exact hs⟩
      · rw [if_neg qb] at hb
        exact ⟨_, hb⟩
    obtain ⟨qa, ha'⟩ := ha'
    obtain ⟨qb, hb'⟩ := hb'
    exact e.ap a b qa qb m hab ha' hb' h1
end

/-! ### judgements -/
def W (K : PySem.W.Frag) (p : Option Addr) (E : Ev) (t : TE) (Φ : PyData → Prop) : Prop :=
  ∀ (H0 G H : Hp) (σ : L2.St), J p G H → EnvOk K p H0 G H σ E → ∀ Q : VK,
    (∀ v d G' H', Xt p G H G' H' → J p G' H' → Dp K G' v d → Φ d → Q v H') → t σ H Q
/-- a new list of one's own -/
def WM (K : PySem.W.Frag) (p : Option Addr) (E : Ev) (t : TE) (Φ : List PyData → Prop) : Prop :=
  ∀ (H0 G H : Hp) (σ : L2.St), J p G H → EnvOk K p H0 G H σ E → ∀ Q : VK,
    (∀ l vs ds G' H', Xt p G H G' H' → J p G' H' → H l = none → H' l = some (.lst vs) → G' l = none → DpAll K G' vs ds → Φ ds → Q (.ref l) H') → t σ H Q
def WA (K : PySem.W.Frag) (p : Option Addr) (E : Ev) (t : TA) (Φ : List PyData → Prop) : Prop :=
  ∀ (H0 G H : Hp) (σ : L2.St), J p G H → EnvOk K p H0 G H σ E → ∀ Q : List V → Hp → Prop,
    (∀ vs ds G' H', Xt p G H G' H' → J p G' H' → DpAll K G' vs ds → Φ ds → Q vs H') → t σ H Q
def WT (K : PySem.W.Frag) (p : Option Addr) (E : Ev) (t : TT) (Φ : Bool → Prop) : Prop :=
  ∀ (H0 G H : Hp) (σ : L2.St), J p G H → EnvOk K p H0 G H σ E → ∀ Q : Bool → Hp → Prop,
    (∀ b G' H', Xt p G H G' H' → J p G' H' → Φ b → Q b H') → t σ H Q
/-- an operation upon values -/
def WR (K : PySem.W.Frag) (p : Option Addr) (r : R2) (x y : PyData) (Φ : PyData → Prop) : Prop :=
  ∀ (G H : Hp) (v u : V), J p G H → Dp K G v x → Dp K G u y → ∀ Q : VK,
    (∀ w d G' H', Xt p G H G' H' → J p G' H' → Dp K G' w d → Φ d → Q w H') → r v u H Q
/-- a call of a built-in upon values -/
def WC (K : PySem.W.Frag) (p : Option Addr) (r : List V → Hp → VK → Prop) (xs : List PyData) (Φ : PyData → Prop) : Prop :=
  ∀ (G H : Hp) (vs : List V), J p G H → DpAll K G vs xs → ∀ Q : VK,
    (∀ w d G' H', Xt p G H G' H' → J p G' H' → Dp K G' w d → Φ d → Q w H') → r vs H Q

section
variable {K : PySem.W.Frag} {p : Option Addr} {E : Ev} {t ta tb tc : TE} {Φ : PyData → Prop} {Ψ : List PyData → Prop} {tt tu : TT} {Θ : Bool → Prop}

theorem W.imp {Φ' : PyData → Prop} (h : W K p E t Φ) (k : ∀ d, Φ d → Φ' d) : W K p E t Φ' :=
  fun H0 G H σ j e Q q => h H0 G H σ j e Q fun v d G' H' x j' dv hd => q v d G' H' x j' dv (k d hd)
theorem W_of_WM (h : WM K p E t fun ds => Φ (.list ds)) : W K p E t Φ := by
  intro H0 G H σ j e Q q
  refine h H0 G H σ j e Q fun l vs ds G' H' x j' hn hl hg dv hd => ?_
  have e1 : Same G' (upd G' l (.lst vs)) := fun a o z => by
    rw [upd_ne (ne_of_none z hg)]
    exact z
  have hp := j.ne hn
  refine q _ (.list ds) (upd G' l (.lst vs)) H' ⟨x.gg.trans e1, x.hh, fun a ha hH hG => ?_⟩ (j'.frozen hl hp) (.lst (SqL.of upd_same) (dpA_mono e1 ds vs dv)) hd
  have hne : a ≠ l := fun z => hH (by rw [z]; exact hn)
  rw [upd_ne hne]
  exact x.fr a ha hH hG

/-! ### names, constants -/
theorem W_var {i : Nat} {d : PyData} (h : E[i]? = some (.d d)) (k : Φ d) : W K p E (tVar i) Φ := by
  intro H0 G H σ j e Q q
  obtain ⟨v, h1, h2⟩ := e.dat h
  exact ⟨v, h1, q v d G H Xt.refl j h2 k⟩
theorem W_int {i : Int} (k : Φ (.int i)) : W K p E (tC (.int i)) Φ := fun H0 G H σ j e Q q => q _ _ G H Xt.refl j (.int i) k
theorem W_bl {b : Bool} (k : Φ (.bool b)) : W K p E (tC (.bl b)) Φ := fun H0 G H σ j e Q q => q _ _ G H Xt.refl j (.bl b) k
theorem W_non (k : Φ .none) : W K p E (tC .non) Φ := fun H0 G H σ j e Q q => q _ _ G H Xt.refl j .non k
theorem W_str {x : Str} (k : Φ (.str x)) : W K p E (tC (.str x)) Φ := fun H0 G H σ j e Q q => q _ _ G H Xt.refl j (.str x) k
theorem W_con {v : V} {d : PyData} (h : ∀ G, Dp K G v d) (k : Φ d) : W K p E (tC v) Φ := fun H0 G H σ j e Q q => q _ _ G H Xt.refl j (h G) k

/-! ### operators -/
theorem W_op {r : R2} (h : W K p E ta fun x => W K p E tb fun y => WR K p r x y Φ) : W K p E (tOp r ta tb) Φ := by
  intro H0 G H σ j e Q q
  refine h H0 G H σ j e _ fun v x G1 H1 x1 j1 dv h1 => ?_
  refine h1 H0 G1 H1 σ j1 (e.mono x1) _ fun u y G2 H2 x2 j2 du h2 => ?_
  exact h2 G2 H2 v u j2 (dp_mono x2.gg x v dv) du Q fun w d G3 H3 x3 j3 dw hd => q w d G3 H3 ((x1.trans x2).trans x3) j3 dw hd
def fl : V → PyData
  | .non => .none
  | .bl b => .bool b
  | .int i => .int i
  | .str x => .str x
  | _ => .none
def isFl : V → Bool
  | .non | .bl _ | .int _ | .str _ => true
  | _ => false
theorem fl_ok {G : Hp} {v : V} (h : isFl v = true) : Dp K G v (fl v) := by
  cases v with
  | non => exact .non
  | bl b => exact .bl b
  | int i => exact .int i
  | str x => exact .str x
  | _ => cases h
theorem WR_I0 {g : Int → Int → V} {i k : Int} (h : isFl (g i k) = true) (q : Φ (fl (g i k))) : WR K p (rI0 g) (.int i) (.int k) Φ := by
  intro G H v u j dv du Q z
  exact ⟨i, k, dp_int dv, dp_int du, z _ _ G H Xt.refl j (fl_ok h) q⟩
theorem WR_I {C : Int → Int → Prop} {g : Int → Int → V} {i k : Int} (c : C i k) (h : isFl (g i k) = true) (q : Φ (fl (g i k))) : WR K p (rI C g) (.int i) (.int k) Φ := by
  intro G H v u j dv du Q z
  exact ⟨i, k, dp_int dv, dp_int du, c, z _ _ G H Xt.refl j (fl_ok h) q⟩

theorem WR_eqI {i k : Int} (q : Φ (.bool (decide (i = k)))) : WR K p rEq (.int i) (.int k) Φ := by
  intro G H v u j dv du Q z
  rw [dp_int dv, dp_int du]
  refine ⟨rfl, z _ (.bool (decide (i = k))) G H Xt.refl j ?_ q⟩
  have e : decide (V.int i = V.int k) = decide (i = k) := decide_eq_decide.mpr ⟨fun h => V.int.inj h, fun h => by rw [h]⟩
  rw [e]
  exact .bl _
theorem WR_neI {i k : Int} (q : Φ (.bool (!decide (i = k)))) : WR K p rNe (.int i) (.int k) Φ := by
  intro G H v u j dv du Q z
  rw [dp_int dv, dp_int du]
  refine ⟨rfl, z _ (.bool (!decide (i = k))) G H Xt.refl j ?_ q⟩
  have e : decide (V.int i = V.int k) = decide (i = k) := decide_eq_decide.mpr ⟨fun h => V.int.inj h, fun h => by rw [h]⟩
  rw [e]
  exact .bl _
theorem WR_eqS {i k : Str} (q : Φ (.bool (decide (i = k)))) : WR K p rEq (.str i) (.str k) Φ := by
  intro G H v u j dv du Q z
  rw [dp_str dv, dp_str du]
  refine ⟨rfl, z _ (.bool (decide (i = k))) G H Xt.refl j ?_ q⟩
  have e : decide (V.str i = V.str k) = decide (i = k) := decide_eq_decide.mpr ⟨fun h => V.str.inj h, fun h => by rw [h]⟩
  rw [e]
  exact .bl _
theorem WR_neS {i k : Str} (q : Φ (.bool (!decide (i = k)))) : WR K p rNe (.str i) (.str k) Φ := by
  intro G H v u j dv du Q z
  rw [dp_str dv, dp_str du]
  refine ⟨rfl, z _ (.bool (!decide (i = k))) G H Xt.refl j ?_ q⟩
  have e : decide (V.str i = V.str k) = decide (i = k) := decide_eq_decide.mpr ⟨fun h => V.str.inj h, fun h => by rw [h]⟩
  rw [e]
  exact .bl _
/-- == of data -/
theorem WR_eqD {x y : PyData} (hx : SeqAt.shaped x = true) (hy : SeqAt.shaped y = true) (q : Φ (.bool (PyData.eqv x y))) : WR K p (rEqD K) x y Φ := by
  intro G H v u j dv du Q z
  exact ⟨x, y, dp_mono j.sub x v dv, dp_mono j.sub y u du, hx, hy, z _ _ G H Xt.refl j (.bl _) q⟩
theorem WR_neD {x y : PyData} (hx : SeqAt.shaped x = true) (hy : SeqAt.shaped y = true) (q : Φ (.bool (!PyData.eqv x y))) : WR K p (rNeD K) x y Φ := by
  intro G H v u j dv du Q z
  exact ⟨x, y, dp_mono j.sub x v dv, dp_mono j.sub y u du, hx, hy, z _ _ G H Xt.refl j (.bl _) q⟩
/-- t[i], xs[i] -/
theorem at_nat {α : Type} {xs : List α} {i : Int} {x : α} (h : atI xs i = some x) : ∃ k : Nat, ixN xs.length i = some k ∧ xs[k]? = some x := by
  unfold atI at h
  cases e : ixN xs.length i with
  | none =>
    rw [e] at h
    cases h
  | some k =>
    rw [e] at h
    exact ⟨k, rfl, h⟩
theorem at_of_ds {G : Hp} {vs : List V} {ds : List PyData} {i : Int} {d : PyData} (h : DpAll K G vs ds) (e : atI ds i = some d) : ∃ v, atI vs i = some v ∧ Dp K G v d := by
  obtain ⟨k, h1, h2⟩ := at_nat e
  obtain ⟨v, h3, h4⟩ := dpA_get h h2
  refine ⟨v, ?_, h4⟩
  unfold atI
  rw [dpA_len h, h1]
  exact h3
theorem WR_ixT {ds : List PyData} {i : Int} {d : PyData} (h : atI ds i = some d) (q : Φ d) : WR K p (rIxT K) (.tuple ds) (.int i) Φ := by
  intro G H v u j dv du Q z
  obtain ⟨a, xs, rfl, hs, ha⟩ := dp_tup dv
  obtain ⟨w, h1, h2⟩ := at_of_ds ha h
  exact ⟨a, xs, i, w, rfl, dp_int du, sqT_mono j.sub hs, h1, z w d G H Xt.refl j h2 q⟩
theorem WR_ixL {ds : List PyData} {i : Int} {d : PyData} (h : atI ds i = some d) (q : Φ d) : WR K p (rIxL K) (.list ds) (.int i) Φ := by
  intro G H v u j dv du Q z
  obtain ⟨a, xs, rfl, hs, ha⟩ := dp_lst dv
  obtain ⟨w, h1, h2⟩ := at_of_ds ha h
  exact ⟨a, xs, i, w, rfl, dp_int du, j.sub.seq hs, h1, z w d G H Xt.refl j h2 q⟩
/-- xs[i] of a list of one's own, that stands in a slot -/
theorem W_ixM {i : Nat} {ds : List PyData} (hs : E[i]? = some (.m ds)) (h : W K p E tb fun y => ∃ k d, y = .int k ∧ atI ds k = some d ∧ Φ d) : W K p E (tOp (rIxL K) (tVar i) tb) Φ := by
  intro H0 G H σ j e Q q
  obtain ⟨l, vs, h1, h2, h3, h4, h5, h6⟩ := e.own hs
  refine ⟨_, h1, h H0 G H σ j e _ fun u y G1 H1 x1 j1 du hy => ?_⟩
  obtain ⟨k, d, rfl, hk, hd⟩ := hy
  obtain ⟨w, h7, h8⟩ := at_of_ds (dpA_mono x1.gg ds vs h3) hk
  exact ⟨l, vs, k, w, rfl, dp_int du, SqL.of (x1.hh l _ h5 h2), h7, q w d G1 H1 x1 j1 h8 hd⟩
/-- -e -/
theorem W_neg (h : W K p E ta fun x => ∃ i, x = .int i ∧ Φ (.int (-i))) : W K p E (tUn (rU fun i => .int (-i)) ta) Φ := by
  intro H0 G H σ j e Q q
  refine h H0 G H σ j e _ fun v x G1 H1 x1 j1 dv h1 => ?_
  obtain ⟨i, rfl, h1⟩ := h1
  exact ⟨i, dp_int dv, q _ _ G1 H1 x1 j1 (.int _) h1⟩

/-! ### tests -/
theorem WT_test (h : W K p E ta fun x => ∃ b, x = .bool b ∧ Θ b) : WT K p E (tTest ta) Θ := by
  intro H0 G H σ j e Q q
  refine h H0 G H σ j e _ fun v x G1 H1 x1 j1 dv h1 => ?_
  obtain ⟨b, rfl, h1⟩ := h1
  exact ⟨b, dp_bl dv, q b G1 H1 x1 j1 h1⟩
theorem WT_B (h : W K p E ta fun x => ∃ b, x = .bool b ∧ Θ b) : WT K p E (tB ta) Θ := by
  intro H0 G H σ j e Q q
  refine h H0 G H σ j e _ fun v x G1 H1 x1 j1 dv h1 => ?_
  obtain ⟨b, rfl, h1⟩ := h1
  exact ⟨b, dp_bl dv, q b G1 H1 x1 j1 h1⟩
theorem WT_yes (h : Θ true) : WT K p E tYes Θ := fun H0 G H σ j e Q q => q true G H Xt.refl j h
theorem WT_not (h : WT K p E tt fun b => Θ (!b)) : WT K p E (tNot tt) Θ := by
  intro H0 G H σ j e Q q
  exact h H0 G H σ j e _ fun b G1 H1 x1 j1 h1 => q (!b) G1 H1 x1 j1 h1
theorem WT_and (h : WT K p E tt fun b => (b = true → WT K p E tu Θ) ∧ (b = false → Θ false)) : WT K p E (tAnd tt tu) Θ := by
  intro H0 G H σ j e Q q
  refine h H0 G H σ j e _ fun b G1 H1 x1 j1 h1 => ?_
  cases b with
  | true =>
    refine iteT (h1.1 rfl H0 G1 H1 σ j1 (e.mono x1) Q fun c G2 H2 x2 j2 h2 => q c G2 H2 (x1.trans x2) j2 h2)
  | false => exact iteF (q false G1 H1 x1 j1 (h1.2 rfl))
theorem WT_or (h : WT K p E tt fun b => (b = true → Θ true) ∧ (b = false → WT K p E tu Θ)) : WT K p E (tOr tt tu) Θ := by
  intro H0 G H σ j e Q q
  refine h H0 G H σ j e _ fun b G1 H1 x1 j1 h1 => ?_
  cases b with
  | true => exact iteT (q true G1 H1 x1 j1 (h1.1 rfl))
  | false => refine iteF (h1.2 rfl H0 G1 H1 σ j1 (e.mono x1) Q fun c G2 H2 x2 j2 h2 => q c G2 H2 (x1.trans x2) j2 h2)
theorem W_andV (h : W K p E ta fun x => ∃ b, x = .bool b ∧ (b = true → W K p E tb Φ) ∧ (b = false → Φ (.bool false))) : W K p E (tAndV ta tb) Φ := by
  intro H0 G H σ j e Q q
  refine h H0 G H σ j e _ fun v x G1 H1 x1 j1 dv h1 => ?_
  obtain ⟨b, rfl, h1, h2⟩ := h1
  refine ⟨b, dp_bl dv, ?_⟩
  cases b with
  | true => exact iteT (h1 rfl H0 G1 H1 σ j1 (e.mono x1) Q fun w d G2 H2 x2 j2 dw hd => q w d G2 H2 (x1.trans x2) j2 dw hd)
  | false => exact iteF (q _ _ G1 H1 x1 j1 (.bl false) (h2 rfl))
theorem W_orV (h : W K p E ta fun x => ∃ b, x = .bool b ∧ (b = true → Φ (.bool true)) ∧ (b = false → W K p E tb Φ)) : W K p E (tOrV ta tb) Φ := by
  intro H0 G H σ j e Q q
  refine h H0 G H σ j e _ fun v x G1 H1 x1 j1 dv h1 => ?_
  obtain ⟨b, rfl, h1, h2⟩ := h1
  refine ⟨b, dp_bl dv, ?_⟩
  cases b with
  | true => exact iteT (q _ _ G1 H1 x1 j1 (.bl true) (h1 rfl))
  | false => exact iteF (h2 rfl H0 G1 H1 σ j1 (e.mono x1) Q fun w d G2 H2 x2 j2 dw hd => q w d G2 H2 (x1.trans x2) j2 dw hd)
theorem W_notV (h : W K p E ta fun x => ∃ b, x = .bool b ∧ Φ (.bool (!b))) : W K p E (tNotV ta) Φ := by
  intro H0 G H σ j e Q q
  refine h H0 G H σ j e _ fun v x G1 H1 x1 j1 dv h1 => ?_
  obtain ⟨b, rfl, h1⟩ := h1
  exact ⟨b, dp_bl dv, q _ _ G1 H1 x1 j1 (.bl _) h1⟩
theorem W_if (h : WT K p E tt fun b => (b = true → W K p E ta Φ) ∧ (b = false → W K p E tb Φ)) : W K p E (tIf tt ta tb) Φ := by
  intro H0 G H σ j e Q q
  refine h H0 G H σ j e _ fun b G1 H1 x1 j1 h1 => ?_
  cases b with
  | true => exact iteT (h1.1 rfl H0 G1 H1 σ j1 (e.mono x1) Q fun w d G2 H2 x2 j2 dw hd => q w d G2 H2 (x1.trans x2) j2 dw hd)
  | false => exact iteF (h1.2 rfl H0 G1 H1 σ j1 (e.mono x1) Q fun w d G2 H2 x2 j2 dw hd => q w d G2 H2 (x1.trans x2) j2 dw hd)

/-! ### argument lists, displays -/
theorem WA_nil (k : Ψ []) : WA K p E tNil Ψ := fun H0 G H σ j e Q q => q [] [] G H Xt.refl j .nil k
theorem WA_cons {tr : TA} (h : W K p E ta fun x => WA K p E tr fun xs => Ψ (x :: xs)) : WA K p E (tCons ta tr) Ψ := by
  intro H0 G H σ j e Q q
  refine h H0 G H σ j e _ fun v x G1 H1 x1 j1 dv h1 => ?_
  refine h1 H0 G1 H1 σ j1 (e.mono x1) _ fun vs xs G2 H2 x2 j2 dvs h2 => ?_
  exact q (v :: vs) (x :: xs) G2 H2 (x1.trans x2) j2 (.cons (dp_mono x2.gg x v dv) dvs) h2
theorem W_tup {tr : TA} (h : WA K p E tr fun xs => xs.length ≤ sizeLine ∧ Φ (.tuple xs)) : W K p E (tTup tr) Φ := by
  intro H0 G H σ j e Q q
  refine h H0 G H σ j e _ fun vs xs G1 H1 x1 j1 dvs h1 => ⟨by rw [dpA_len dvs]; exact h1.1, fun a ha => ?_⟩
  have x2 := Xt.laid (p := p) j1 (o := .tup vs) ha
  exact q _ (.tuple xs) _ _ (x1.trans x2) (j1.laid ha) (.tup (SqT.of upd_same) (dpA_mono x2.gg xs vs dvs)) h1.2
theorem WM_lst {tr : TA} (h : WA K p E tr fun xs => xs.length ≤ sizeLine ∧ Ψ xs) : WM K p E (tLst tr) Ψ := by
  intro H0 G H σ j e Q q
  refine h H0 G H σ j e _ fun vs xs G1 H1 x1 j1 dvs h1 => ⟨by rw [dpA_len dvs]; exact h1.1, fun a ha => ?_⟩
  have hpa := j1.ne ha
  have h0 : H a = none := by
    cases z : H a with
    | none => rfl
    | some o =>
      rw [x1.hh a o hpa z] at ha
      cases ha
  exact q a vs xs G1 _ (x1.trans (Xt.made j1 ha)) (j1.made (j1.free ha) hpa) h0 upd_same (j1.free ha) dvs h1.2

/-! ### calls -/
theorem W_cb {r : List V → Hp → VK → Prop} {tr : TA} (h : WA K p E tr fun xs => WC K p r xs Φ) : W K p E (tCB r tr) Φ := by
  intro H0 G H σ j e Q q
  refine h H0 G H σ j e _ fun vs xs G1 H1 x1 j1 dvs h1 => ?_
  exact h1 G1 H1 vs j1 dvs Q fun w d G2 H2 x2 j2 dw hd => q w d G2 H2 (x1.trans x2) j2 dw hd
end

/-! ### promises of defs -/
/-- a def of data: args i in, what out i says out -/
def spD {ι : Type} (K : PySem.W.Frag) (n : Nat) (args : ι → List PyData) (pre : ι → Prop) (out : ι → PyData → Prop) : Sp := fun vs H Q _ =>
  vs.length = n ∧ ∃ (p : Option Addr) (G : Hp) (i : ι), J p G H ∧ DpAll K G vs (args i) ∧ pre i ∧
    ∀ v d G' H', Xt p G H G' H' → J p G' H' → Dp K G' v d → out i d → Q v H'
/-- a def whose first argument is the pail -/
def spP {ι : Type} (K : PySem.W.Frag) (n : Nat) (args : ι → List PyData) (pre : ι → Prop) (out : ι → PyData → Prop) : Sp := fun vs H Q _ =>
  vs.length = n ∧ ∃ (a : Addr) (ws : List V) (G : Hp) (i : ι), vs = .ref a :: ws ∧ J (some a) G H ∧ DpAll K G ws (args i) ∧ pre i ∧
    ∀ v d G' H', Xt (some a) G H G' H' → J (some a) G' H' → Dp K G' v d → out i d → Q v H'
section
variable {K : PySem.W.Frag} {p : Option Addr} {E : Ev} {Φ : PyData → Prop} {ι : Type} {n : Nat} {args : ι → List PyData} {pre : ι → Prop} {out : ι → PyData → Prop}
theorem W_call {tr : TA} {X : XK} (h : WA K p E tr fun xs => ∃ i, xs = args i ∧ (args i).length = n ∧ pre i ∧ ∀ d, out i d → Φ d) : W K p E (tCall (spD K n args pre out) [] X tr) Φ := by
  intro H0 G H σ j e Q q
  refine h H0 G H σ j e _ fun vs xs G1 H1 x1 j1 dvs h1 => ?_
  obtain ⟨i, rfl, hn, hp, hk⟩ := h1
  rw [List.append_nil]
  exact ⟨(dpA_len dvs).trans hn, p, G1, i, j1, dvs, hp, fun v d G2 H2 x2 j2 dv hd => q v d G2 H2 (x1.trans x2) j2 dv (hk d hd)⟩
/-- with defaults behind -/
theorem W_callD {tr : TA} {X : XK} {dvs : List V} (hdf : dvs.all isFl = true) (h : WA K p E tr fun xs => ∃ i, xs ++ dvs.map fl = args i ∧ (args i).length = n ∧ pre i ∧ ∀ d, out i d → Φ d) : W K p E (tCall (spD K n args pre out) dvs X tr) Φ := by
  intro H0 G H σ j e Q q
  refine h H0 G H σ j e _ fun vs xs G1 H1 x1 j1 dvs' h1 => ?_
  obtain ⟨i, hi, hn, hp, hk⟩ := h1
  have hd : ∀ (us : List V), us.all isFl = true → DpAll K G1 us (us.map fl) := by
    intro us
    induction us with
    | nil => intro _; exact .nil
    | cons u us ih =>
      intro hu
      rw [List.all_cons, Bool.and_eq_true] at hu
      exact .cons (fl_ok hu.1) (ih hu.2)
  have da := dpA_append dvs' (hd dvs hdf)
  rw [hi] at da
  exact ⟨(dpA_len da).trans hn, p, G1, i, j1, da, hp, fun v d G2 H2 x2 j2 dv hd => q v d G2 H2 (x1.trans x2) j2 dv (hk d hd)⟩
/-- by keywords alone: gV puts the values in order -/
theorem W_callN {tk : TA} {X : XK} {m : Nat} {gV : List V → List V → List V} {gD : List PyData → List PyData}
    (hg : ∀ (G : Hp) (vs : List V) (ds : List PyData), DpAll K G vs ds → ds.length = m → DpAll K G (gV [] vs) (gD ds))
    (h : WA K p E tk fun xs => xs.length = m ∧ ∃ i, gD xs = args i ∧ (args i).length = n ∧ pre i ∧ ∀ d, out i d → Φ d) : W K p E (tCallN 0 m (spD K n args pre out) gV X tNil tk) Φ := by
  intro H0 G H σ j e Q q
  refine h H0 G H σ j e _ fun vs xs G1 H1 x1 j1 dvs h1 => ?_
  obtain ⟨hm, i, hi, hn, hp, hk⟩ := h1
  have da := hg G1 vs xs dvs hm
  rw [hi] at da
  exact ⟨rfl, (dpA_len dvs).trans hm, (dpA_len da).trans hn, p, G1, i, j1, da, hp, fun v d G2 H2 x2 j2 dv hd => q v d G2 H2 (x1.trans x2) j2 dv (hk d hd)⟩
theorem W_callP {tr : TA} {X : XK} {a : Addr} {k : Nat} (ha : E[k]? = some (.v (.ref a))) (h : WA K (some a) E tr fun xs => ∃ i, xs = args i ∧ (args i).length + 1 = n ∧ pre i ∧ ∀ d, out i d → Φ d) :
    W K (some a) E (tCall (spP K n args pre out) [] X (tCons (tVar k) tr)) Φ := by
  intro H0 G H σ j e Q q
  refine ⟨_, e.val ha, ?_⟩
  refine h H0 G H σ j e _ fun vs xs G1 H1 x1 j1 dvs h1 => ?_
  obtain ⟨i, rfl, hn, hp, hk⟩ := h1
  rw [List.append_nil]
  refine ⟨?_, a, vs, G1, i, rfl, j1, dvs, hp, fun v d G2 H2 x2 j2 dv hd => q v d G2 H2 (x1.trans x2) j2 dv (hk d hd)⟩
  rw [List.length_cons, dpA_len dvs]
  exact hn
end
end Rim

/-! RimS: statements, loops, comprehensions, built-ins over data; a def's body against its promise. -/
namespace Rim
open PySem PySem.Spec L2

/-! ### statements: N behind it, R what is returned, B break, C continue -/
structure Exits (K : PySem.W.Frag) (p : Option Addr) (G0 H0 : Hp) (D : Ends) (N : Ev → Prop) (R : PyData → Prop) (B C : Ev → Prop) : Prop where
  nx : ∀ (σ : L2.St) (E : Ev) (G H : Hp), Xt p G0 H0 G H → J p G H → EnvOk K p H0 G H σ E → N E → D.nx σ H
  rt : ∀ (v : V) (d : PyData) (G H : Hp), Xt p G0 H0 G H → J p G H → Dp K G v d → R d → D.rt v H
  bk : ∀ (σ : L2.St) (E : Ev) (G H : Hp), Xt p G0 H0 G H → J p G H → EnvOk K p H0 G H σ E → B E → D.bk σ H
  ct : ∀ (σ : L2.St) (E : Ev) (G H : Hp), Xt p G0 H0 G H → J p G H → EnvOk K p H0 G H σ E → C E → D.ct σ H
def S (K : PySem.W.Frag) (p : Option Addr) (E : Ev) (t : TS) (N : Ev → Prop) (R : PyData → Prop) (B C : Ev → Prop) : Prop :=
  ∀ (G0 H0 G H : Hp) (σ : L2.St), Xt p G0 H0 G H → J p G H → EnvOk K p H0 G H σ E → ∀ D : Ends, Exits K p G0 H0 D N R B C → t D σ H
abbrev Nev : Ev → Prop := fun _ => False

section
variable {K : PySem.W.Frag} {p : Option Addr} {E : Ev} {te ta tb : TE} {N B C : Ev → Prop} {R : PyData → Prop} {t u : TS} {tt : TT}

theorem S.imp {N' B' C' : Ev → Prop} {R' : PyData → Prop} (h : S K p E t N R B C) (n : ∀ E, N E → N' E) (r : ∀ d, R d → R' d) (b : ∀ E, B E → B' E) (c : ∀ E, C E → C' E) : S K p E t N' R' B' C' :=
  fun G0 H0 G H σ x j e D q => h G0 H0 G H σ x j e D ⟨fun σ E G H a b' c' d => q.nx σ E G H a b' c' (n E d), fun v d G H a b' c' z => q.rt v d G H a b' c' (r d z), fun σ E G H a b' c' d => q.bk σ E G H a b' c' (b E d), fun σ E G H a b' c' d => q.ct σ E G H a b' c' (c E d)⟩
theorem S_seq (h : S K p E t (fun E' => S K p E' u N R B C) R B C) : S K p E (tSeq t u) N R B C :=
  fun G0 H0 G H σ x j e D q => h G0 H0 G H σ x j e { D with nx := u D } ⟨fun σ' E' G' H' x' j' e' s => s G0 H0 G' H' σ' x' j' e' D q, q.rt, q.bk, q.ct⟩
/-- a statement that may go on in several ways: one word for them all -/
theorem S_cut {M : Ev → Prop} (h : S K p E t M R B C) (k : ∀ E', M E' → S K p E' u N R B C) : S K p E (tSeq t u) N R B C :=
  S_seq (h.imp k (fun _ h => h) (fun _ h => h) fun _ h => h)
theorem S_next (k : N E) : S K p E tNext N R B C := fun G0 H0 G H σ x j e D q => q.nx σ E G H x j e k
theorem S_break (k : B E) : S K p E tBreak N R B C := fun G0 H0 G H σ x j e D q => q.bk σ E G H x j e k
theorem S_cont (k : C E) : S K p E tCont N R B C := fun G0 H0 G H σ x j e D q => q.ct σ E G H x j e k
theorem S_ret (h : W K p E te R) : S K p E (tRet te) N R B C := fun G0 H0 G H σ x j e D q =>
  h H0 G H σ j e _ fun v d G' H' x' j' dv hd => q.rt v d G' H' (x.trans x') j' dv hd
theorem S_retN (k : R .none) : S K p E tRetN N R B C := fun G0 H0 G H σ x j e D q => q.rt .non .none G H x j .non k
theorem S_drop (h : W K p E te fun _ => N E) : S K p E (tDrop te) N R B C := fun G0 H0 G H σ x j e D q =>
  h H0 G H σ j e _ fun v d G' H' x' j' dv hd => q.nx σ E G' H' (x.trans x') j' (e.mono x') hd
theorem S_asg {i : Nat} (hi : i < E.length) (h : W K p E te fun d => N (E.set i (.d d))) : S K p E (tAsg te (gName i)) N R B C := fun G0 H0 G H σ x j e D q =>
  h H0 G H σ j e _ fun v d G' H' x' j' dv hd => q.nx _ _ G' H' (x.trans x') j' ((e.mono x').setD (by rw [e.len]; exact hi) dv) hd
theorem Xt.fresh {G0 H0 G H : Hp} (x : Xt p G0 H0 G H) (j : J p G H) {l : Addr} (h : H l = none) : H0 l = none := by
  cases z : H0 l with
  | none => rfl
  | some o =>
    rw [x.hh l o (j.ne h) z] at h
    cases h
theorem S_asgM {i : Nat} (hi : i < E.length) (h : WM K p E te fun ds => N (E.set i (.m ds))) : S K p E (tAsg te (gName i)) N R B C := fun G0 H0 G H σ x j e D q =>
  h H0 G H σ j e _ fun l vs ds G' H' x' j' hn hl hg dv hd => by
    refine q.nx _ _ G' H' (x.trans x') j' ((e.mono x').setM (by rw [e.len]; exact hi) (fun k es m h1 h2 => ?_) hl dv hg (j.ne hn) (x.fresh j hn)) hd
    obtain ⟨l', vs', z1, z2, _⟩ := e.own h1
    rw [z1] at h2
    cases h2
    exact ne_of_none z2 hn
theorem S_if (h : WT K p E tt fun b => (b = true → S K p E t N R B C) ∧ (b = false → S K p E u N R B C)) : S K p E (tIfS tt t u) N R B C := fun G0 H0 G H σ x j e D q =>
  h H0 G H σ j e _ fun b G' H' x' j' hb => by
    cases b with
    | true => exact iteT (hb.1 rfl G0 H0 G' H' σ (x.trans x') j' (e.mono x') D q)
    | false => exact iteF (hb.2 rfl G0 H0 G' H' σ (x.trans x') j' (e.mono x') D q)
/-- a list of one's own is one's own no longer -/
theorem S_froze {i : Nat} {ds : List PyData} (hs : E[i]? = some (.m ds)) (h : S K p (E.set i (.d (.list ds))) t N R B C) : S K p E t N R B C := fun G0 H0 G H σ x j e D q => by
  obtain ⟨l, vs, h1, h2, h3, h4, h5, h6⟩ := e.own hs
  have e1 : Same G (upd G l (.lst vs)) := fun a o z => by
    rw [upd_ne (ne_of_none z h4)]
    exact z
  have hi := e.has hs
  have x1 : Xt p G0 H0 (upd G l (.lst vs)) H := ⟨x.gg.trans e1, x.hh, fun a ha hH hG => by
    have hne : a ≠ l := fun z => hH (by rw [z]; exact h6)
    rw [upd_ne hne]
    exact x.fr a ha hH hG⟩
  refine h G0 H0 (upd G l (.lst vs)) H σ x1 (j.frozen h2 h5) ?_ D q
  have hE : i < E.length := by rw [← e.len]; exact hi
  refine ⟨by rw [List.length_set]; exact e.len, fun k s hk => ?_, fun a b ds' es m hab ha hb z1 => ?_⟩
  · rw [get_set hE] at hk
    by_cases w : k = i
    · rw [if_pos w] at hk
      cases hk
      exact ⟨.ref l, by rw [w]; exact h1, .lst (SqL.of upd_same) (dpA_mono e1 ds vs h3)⟩
    · rw [if_neg w] at hk
      have z := e.at_ k s hk
      cases s with
      | un => trivial
      | v v => exact z
      | d d =>
        obtain ⟨v, z1, z2⟩ := z
        exact ⟨v, z1, dp_mono e1 d v z2⟩
      | m es =>
        obtain ⟨m, us, z1, z2, z3, z4, z5⟩ := z
        have hne : m ≠ l := fun y => e.ap i k ds es l (Ne.symm w) hs hk h1 (by rw [← y]; exact z1)
        exact ⟨m, us, z1, z2, dpA_mono e1 es us z3, by rw [upd_ne hne]; exact z4, z5⟩
  · rw [get_set hE] at ha hb
    by_cases qa : a = i
    · rw [if_pos qa] at ha
      cases ha
    · by_cases qb : b = i
      · rw [if_pos qb] at hb
        cases hb
      · rw [if_neg qa] at ha
        rw [if_neg qb] at hb
        exact e.ap a b ds' es m hab ha hb z1
/-- a, b = t: data into names -/
def TGok (K : PySem.W.Frag) (p : Option Addr) (E : Ev) (g : TG) (d : PyData) (N : Ev → Prop) : Prop :=
  ∀ (H0 G H : Hp) (σ : L2.St) (v : V), J p G H → EnvOk K p H0 G H σ E → Dp K G v d → ∀ Q : L2.St → Hp → Prop, (∀ σ' E', EnvOk K p H0 G H σ' E' → N E' → Q σ' H) → g v σ H Q
def TGsok (K : PySem.W.Frag) (p : Option Addr) (E : Ev) (g : TGs) (ds : List PyData) (N : Ev → Prop) : Prop :=
  ∀ (H0 G H : Hp) (σ : L2.St) (vs : List V), J p G H → EnvOk K p H0 G H σ E → DpAll K G vs ds → ∀ Q : L2.St → Hp → Prop, (∀ σ' E', EnvOk K p H0 G H σ' E' → N E' → Q σ' H) → g vs σ H Q
theorem TG_name {i : Nat} {d : PyData} (hi : i < E.length) (k : N (E.set i (.d d))) : TGok K p E (gName i) d N := fun H0 G H σ v j e dv Q q =>
  q _ _ (e.setD (by rw [e.len]; exact hi) dv) k
theorem TGs_nil (k : N E) : TGsok K p E gNil [] N := fun H0 G H σ vs j e dv Q q => by
  cases dv
  exact ⟨rfl, q σ E e k⟩
theorem TGs_cons {g : TG} {gs : TGs} {d : PyData} {ds : List PyData} (h : TGok K p E g d fun E' => TGsok K p E' gs ds N) : TGsok K p E (gCons g gs) (d :: ds) N := fun H0 G H σ vs j e dv Q q => by
  cases dv with
  | cons a b =>
    refine ⟨_, _, rfl, h H0 G H σ _ j e a _ fun σ' E' e' k => ?_⟩
    exact k H0 G H σ' _ j e' b Q q
theorem TG_tup {n : Nat} {gs : TGs} {ds : List PyData} (hn : ds.length = n) (h : TGsok K p E gs ds N) : TGok K p E (gTup K n gs) (.tuple ds) N := fun H0 G H σ v j e dv Q q => by
  obtain ⟨a, xs, rfl, hs, ha⟩ := dp_tup dv
  exact ⟨a, xs, rfl, sqT_mono j.sub hs, (dpA_len ha).trans hn, h H0 G H σ xs j e ha Q q⟩
theorem S_asgG {g : TG} (h : W K p E te fun d => TGok K p E g d N) : S K p E (tAsg te g) N R B C := fun G0 H0 G H σ x j e D q =>
  h H0 G H σ j e _ fun v d G' H' x' j' dv hd => hd H0 G' H' σ v j' (e.mono x') dv _ fun σ' E' e' k => q.nx σ' E' G' H' (x.trans x') j' e' k
/-- a, b = e1, e2 into two names -/
theorem S_par {i k : Nat} {tr : TA} (hi : i < E.length) (hk : k < E.length) (h : WA K p E tr fun ds => ∃ a b, ds = [a, b] ∧ N ((E.set i (.d a)).set k (.d b))) : S K p E (tPar i k tr) N R B C := fun G0 H0 G H σ x j e D q =>
  h H0 G H σ j e _ fun vs ds G' H' x' j' dv hd => by
    obtain ⟨a, b, rfl, hn⟩ := hd
    cases dv with
    | cons da dv =>
      cases dv with
      | cons db dv =>
        cases dv
        refine ⟨_, _, rfl, q.nx _ _ G' H' (x.trans x') j' (((e.mono x').setD (by rw [e.len]; exact hi) da).setD ?_ db) hn⟩
        rw [List.length_set, e.len]
        exact hk
/-- x op= e upon ints -/
theorem S_augI {i : Nat} {f : Int → Int → Int} {a : Int} (hs : E[i]? = some (.d (.int a))) (h : W K p E te fun d => ∃ b, d = .int b ∧ N (E.set i (.d (.int (f a b))))) : S K p E (tAug i te (ipI f)) N R B C := fun G0 H0 G H σ x j e D q => by
  obtain ⟨v, h1, h2⟩ := e.dat hs
  refine ⟨v, h1, h H0 G H σ j e _ fun u d G' H' x' j' dv hd => ?_⟩
  obtain ⟨b, rfl, hn⟩ := hd
  exact ⟨a, b, dp_int h2, dp_int dv, q.nx _ _ G' H' (x.trans x') j' ((e.mono x').setD (e.has hs) (.int _)) hn⟩

/-! ### lists of one's own -/
theorem Xt.chg {G0 H0 G H : Hp} (x : Xt p G0 H0 G H) {l : Addr} {o : HO} (h0 : H0 l = none) : Xt p G0 H0 G (upd H l o) :=
  ⟨x.gg, fun a u ha hu => by
    rw [upd_ne (ne_of_none hu h0)]
    exact x.hh a u ha hu, x.fr⟩
/-- xs[k] = e -/
theorem S_setM {i : Nat} {ti : TE} {ds : List PyData} (hs : E[i]? = some (.m ds))
    (h : W K p E te fun d => W K p E ti fun y => ∃ (k : Int) (n : Nat), y = .int k ∧ ixN ds.length k = some n ∧ N (E.set i (.m (ds.set n d)))) :
    S K p E (tAsg te (gSub (tVar i) ti rSetL)) N R B C := fun G0 H0 G H σ x j e D q =>
  h H0 G H σ j e _ fun v d G1 H1 x1 j1 dv h1 => by
    have e1 := e.mono x1
    obtain ⟨l, vs, z1, z2, z3, z4, z5, z6⟩ := e1.own hs
    refine ⟨_, z1, h1 H0 G1 H1 σ j1 e1 _ fun u y G2 H2 x2 j2 du h2 => ?_⟩
    obtain ⟨k, n, rfl, hk, hn⟩ := h2
    have e2 := e1.mono x2
    obtain ⟨l', vs', y1, y2, y3, y4, y5, y6⟩ := e2.own hs
    rw [z1] at y1
    cases y1
    refine ⟨l, vs', k, n, rfl, dp_int du, y2, by rw [dpA_len y3]; exact hk, ?_⟩
    exact q.nx σ _ G2 _ (((x.trans x1).trans x2).chg y6) (j2.made y4 y5) (e2.chg hs z1 y2 (dpA_set (dp_mono x2.gg d v dv) n y3) y4 y5 y6) hn
/-- xs.append(e) -/
theorem S_app {i : Nat} {ds : List PyData} (hs : E[i]? = some (.m ds)) (hz : ds.length < sizeLine) (h : W K p E te fun d => N (E.set i (.m (ds ++ [d])))) :
    S K p E (tDrop (tBM K "list" rAppend (tVar i) (tCons te tNil))) N R B C := fun G0 H0 G H σ x j e D q => by
  obtain ⟨l, vs, z1, z2, z3, z4, z5, z6⟩ := e.own hs
  refine ⟨_, z1, Or.inl ⟨rfl, _, Or.inl (Or.inl z2)⟩, h H0 G H σ j e _ fun v d G1 H1 x1 j1 dv h1 => ?_⟩
  have e1 := e.mono x1
  obtain ⟨l', vs', y1, y2, y3, y4, y5, y6⟩ := e1.own hs
  rw [z1] at y1
  cases y1
  refine ⟨l, vs', v, rfl, rfl, y2, by rw [dpA_len y3]; exact hz, ?_⟩
  exact q.nx σ _ G1 _ ((x.trans x1).chg y6) (j1.made y4 y5) (e1.chg hs z1 y2 (dpA_append y3 (.cons dv .nil)) y4 y5 y6) h1

/-! ### loops -/
theorem Xt.from {G0 H0 G1 H1 G H : Hp} (x1 : Xt p G0 H0 G1 H1) (x : Xt p G0 H0 G H) (g : Same G1 G) : Xt p G1 H0 G H :=
  ⟨g, x.hh, fun a ha hH hG => x.fr a ha hH (by
    cases z : G0 a with
    | none => rfl
    | some o =>
      rw [x1.gg a o z] at hG
      cases hG)⟩
theorem Xt.back {G0 H0 G1 H1 G H : Hp} (x1 : Xt p G0 H0 G1 H1) (x : Xt p G1 H0 G H) : Xt p G0 H0 G H :=
  ⟨x1.gg.trans x.gg, x.hh, fun a ha hH hG => x.fr a ha hH (x1.fr a ha hH hG)⟩
theorem Exits.from {G0 H0 G1 H1 : Hp} {D : Ends} (q : Exits K p G0 H0 D N R B C) (x1 : Xt p G0 H0 G1 H1) : Exits K p G1 H0 D N R B C :=
  ⟨fun σ E G H x j e n => q.nx σ E G H (x1.back x) j e n, fun v d G H x j dv r => q.rt v d G H (x1.back x) j dv r,
    fun σ E G H x j e n => q.bk σ E G H (x1.back x) j e n, fun σ E G H x j e n => q.ct σ E G H (x1.back x) j e n⟩
/-- the state of a loop between two turns -/
def Lp (K : PySem.W.Frag) (p : Option Addr) (G1 H0 : Hp) (I : Ev → Prop) (σ : L2.St) (H : Hp) : Prop :=
  ∃ E G, Xt p G1 H0 G H ∧ J p G H ∧ EnvOk K p H0 G H σ E ∧ I E
theorem Lp.exits {G0 H0 G1 H1 : Hp} {D : Ends} {I : Ev → Prop} (q : Exits K p G0 H0 D N R B C) (x1 : Xt p G0 H0 G1 H1) :
    Exits K p G1 H0 { D with nx := Lp K p G1 H0 I, ct := Lp K p G1 H0 I, bk := D.nx } I R N I :=
  ⟨fun σ E G H x j e i => ⟨E, G, x, j, e, i⟩, fun v d G H x j dv r => q.rt v d G H (x1.back x) j dv r,
    fun σ E G H x j e n => q.nx σ E G H (x1.back x) j e n, fun σ E G H x j e i => ⟨E, G, x, j, e, i⟩⟩
/-- for g in a list that nobody changes -/
theorem S_forL {g : TG} {tl : TE}
    (h : W K p E tl fun d => ∃ ds, d = .list ds ∧ ∃ Inv : Nat → Ev → Prop, Inv 0 E ∧
      (∀ k x E', ds[k]? = some x → Inv k E' → TGok K p E' g x fun E2 => S K p E2 t (Inv (k + 1)) R N (Inv (k + 1))) ∧ ∀ E', Inv ds.length E' → N E') :
    S K p E (tFor (iList K tl) g t) N R B C := fun G0 H0 G H σ x j e D q =>
  h H0 G H σ j e _ fun v d G1 H1 x1 j1 dv h1 => by
    obtain ⟨ds, rfl, Inv, i0, is, id⟩ := h1
    obtain ⟨a, xs, rfl, hs, ha⟩ := dp_lst dv
    have z1 := x.trans x1
    refine ⟨a, rfl, ⟨xs, j1.sub.seq hs⟩, ?_⟩
    refine for_list (xs := xs) (fun k σ' H' => Lp K p G1 H0 (Inv k) σ' H') ⟨E, G1, Xt.from z1 z1 (Same.refl _), j1, e.mono x1, i0⟩ ?_ ?_ ?_
    · rintro k σ' H' _ ⟨E', G', x', j', e', i'⟩
      exact (x'.gg.trans j'.sub).seq hs
    · rintro k y σ' H' hy ⟨E', G', x', j', e', i'⟩
      obtain ⟨d, hd, dy⟩ := dpA_at ha hy
      refine is k d E' hd i' H0 G' H' σ' y j' e' (dp_mono x'.gg d y dy) _ fun σ2 E2 e2 s2 => ?_
      exact s2 G1 H0 G' H' σ2 x' j' e2 _ (Lp.exits q z1)
    · rintro σ' H' ⟨E', G', x', j', e', i'⟩
      refine q.nx σ' E' G' H' (z1.back x') j' e' (id E' ?_)
      rw [← dpA_len ha]
      exact i'
/-- for g in a tuple -/
theorem S_forT {g : TG} {tl : TE}
    (h : W K p E tl fun d => ∃ ds, d = .tuple ds ∧ ∃ Inv : Nat → Ev → Prop, Inv 0 E ∧
      (∀ k x E', ds[k]? = some x → Inv k E' → TGok K p E' g x fun E2 => S K p E2 t (Inv (k + 1)) R N (Inv (k + 1))) ∧ ∀ E', Inv ds.length E' → N E') :
    S K p E (tFor (iTup K tl) g t) N R B C := fun G0 H0 G H σ x j e D q =>
  h H0 G H σ j e _ fun v d G1 H1 x1 j1 dv h1 => by
    obtain ⟨ds, rfl, Inv, i0, is, id⟩ := h1
    obtain ⟨a, xs, rfl, hs, ha⟩ := dp_tup dv
    have z1 := x.trans x1
    refine ⟨a, rfl, ⟨xs, sqT_mono j1.sub hs⟩, ?_⟩
    refine for_tup (xs := xs) (fun k σ' H' => Lp K p G1 H0 (Inv k) σ' H') ⟨E, G1, Xt.from z1 z1 (Same.refl _), j1, e.mono x1, i0⟩ ?_ ?_ ?_
    · rintro k σ' H' _ ⟨E', G', x', j', e', i'⟩
      exact sqT_mono (x'.gg.trans j'.sub) hs
    · rintro k y σ' H' hy ⟨E', G', x', j', e', i'⟩
      obtain ⟨d, hd, dy⟩ := dpA_at ha hy
      refine is k d E' hd i' H0 G' H' σ' y j' e' (dp_mono x'.gg d y dy) _ fun σ2 E2 e2 s2 => ?_
      exact s2 G1 H0 G' H' σ2 x' j' e2 _ (Lp.exits q z1)
    · rintro σ' H' ⟨E', G', x', j', e', i'⟩
      refine q.nx σ' E' G' H' (z1.back x') j' e' (id E' ?_)
      rw [← dpA_len ha]
      exact i'
/-- for k in range(n) -/
theorem S_forR1 {g : TG} {tr : TA}
    (h : WA K p E tr fun ds => ∃ n : Int, ds = [.int n] ∧ (-(2 ^ 62) ≤ n ∧ n < 2 ^ 62) ∧ ∃ Inv : Nat → Ev → Prop, Inv 0 E ∧
      (∀ (k : Nat) E', (k : Int) < n → Inv k E' → TGok K p E' g (.int k) fun E2 => S K p E2 t (Inv (k + 1)) R N (Inv (k + 1))) ∧ ∀ E', Inv n.toNat E' → N E') :
    S K p E (tFor (iRng1 tr) g t) N R B C := fun G0 H0 G H σ x j e D q =>
  h H0 G H σ j e _ fun vs ds G1 H1 x1 j1 dv h1 => by
    obtain ⟨n, rfl, ⟨hn1, hn2⟩, Inv, i0, is, id⟩ := h1
    have z1 := x.trans x1
    cases dv with
    | cons da db =>
      cases db
      cases da
      refine ⟨n, rfl, hn1, hn2, ?_⟩
      refine for_range (lo := 0) (n := n.toNat) (fun k σ' H' => Lp K p G1 H0 (Inv k) σ' H') ⟨E, G1, Xt.from z1 z1 (Same.refl _), j1, e.mono x1, i0⟩ ?_ ?_
      · rintro k σ' H' hk ⟨E', G', x', j', e', i'⟩
        have e0 : (0 : Int) + (k : Int) = (k : Int) := Int.zero_add _
        rw [e0]
        refine is k E' (by omega) i' H0 G' H' σ' _ j' e' (.int _) _ fun σ2 E2 e2 s2 => ?_
        exact s2 G1 H0 G' H' σ2 x' j' e2 _ (Lp.exits q z1)
      · rintro σ' H' ⟨E', G', x', j', e', i'⟩
        exact q.nx σ' E' G' H' (z1.back x') j' e' (id E' i')
/-- while: a word with its measure -/
theorem S_while (W0 : Nat → Ev → Prop) (m0 : Nat) (h0 : W0 m0 E)
    (hs : ∀ m E', W0 m E' → WT K p E' tt fun b => (b = true → S K p E' t (fun E2 => ∃ m', m' < m ∧ W0 m' E2) R N (fun E2 => ∃ m', m' < m ∧ W0 m' E2)) ∧ (b = false → N E')) :
    S K p E (tWhile tt t) N R B C := fun G0 H0 G H σ x j e D q => by
  refine ⟨fun m σ' H' => Lp K p G0 H0 (W0 m) σ' H', ⟨m0, E, G, x, j, e, h0⟩, ?_⟩
  rintro m σ' H' ⟨E', G', x', j', e', i'⟩
  refine hs m E' i' H0 G' H' σ' j' e' _ fun b G2 H2 x2 j2 h2 => ?_
  cases b with
  | true =>
    refine iteT ⟨Lp K p G0 H0 fun E2 => ∃ m', m' < m ∧ W0 m' E2, ?_, ?_⟩
    · rintro σ3 H3 ⟨E3, G3, x3, j3, e3, m', hm, w3⟩
      exact ⟨m', hm, E3, G3, x3, j3, e3, w3⟩
    · exact h2.1 rfl G0 H0 G2 H2 σ' (x'.trans x2) j2 (e'.mono x2) _ (Lp.exits q (Xt.refl (H := H0)))
  | false => exact iteF (q.nx σ' E' G2 H2 (x'.trans x2) j2 (e'.mono x2) (h2.2 rfl))
end

/-! ### comprehensions -/
def wipeE (E : Ev) : List Nat → Ev
  | [] => E
  | v :: vs => (wipeE E vs).set v .un
theorem env_wipe {K : PySem.W.Frag} {p : Option Addr} {H0 G H : Hp} {σ : L2.St} {E : Ev} (e : EnvOk K p H0 G H σ E) : ∀ vs : List Nat, EnvOk K p H0 G H (wipe σ vs) (wipeE E vs)
  | [] => e
  | v :: vs => (env_wipe e vs).setU
theorem wipe_len (σ : L2.St) (vs : List Nat) : (wipe σ vs).length = σ.length := wipe_length σ vs
section
variable {K : PySem.W.Frag} {p : Option Addr} {E : Ev} {te tl : TE} {tt : TT} {Φ : List PyData → Prop}
/-- what a turn of a comprehension does: the target, the test, the element -/
def Turn1 (K : PySem.W.Frag) (p : Option Addr) (E : Ev) (g : TG) (tt : TT) (te : TE) (vs : List Nat) (x : PyData) (acc : List PyData) (I : List PyData → Prop) : Prop :=
  ∀ (H0 G H : Hp) (σ : L2.St) (v : V), J p G H → EnvOk K p H0 G H σ E → Dp K G v x → ∀ Q : L2.St → Hp → Prop,
    (∀ σ2 E2, EnvOk K p H0 G H σ2 E2 → wipe σ2 vs = wipe σ vs → WT K p E2 tt (fun b => (b = true → W K p E2 te fun y => I (acc ++ [y])) ∧ (b = false → I acc)) → Q σ2 H) → g v (wipe σ vs) H Q
theorem turn_name {i : Nat} {x : PyData} {acc : List PyData} {I : List PyData → Prop} (hi : i < E.length)
    (h : WT K p (E.set i (.d x)) tt fun b => (b = true → W K p (E.set i (.d x)) te fun y => I (acc ++ [y])) ∧ (b = false → I acc)) : Turn1 K p E (gName i) tt te [i] x acc I := by
  intro H0 G H σ v j e dv Q q
  have hs : i < σ.length := by rw [e.len]; exact hi
  show Q ((σ.set i none).set i (some v)) H
  rw [List.set_set]
  refine q _ _ (e.setD hs dv) ?_ h
  show (σ.set i (some v)).set i none = σ.set i none
  rw [List.set_set]
/-- two names of a pair -/
theorem turn_pair {i k : Nat} {a b : PyData} {acc : List PyData} {I : List PyData → Prop} (hi : i < E.length) (hk : k < E.length) (hik : i ≠ k)
    (h : WT K p ((E.set i (.d a)).set k (.d b)) tt fun c => (c = true → W K p ((E.set i (.d a)).set k (.d b)) te fun y => I (acc ++ [y])) ∧ (c = false → I acc)) :
    Turn1 K p E (gTup K 2 (gCons (gName i) (gCons (gName k) gNil))) tt te [i, k] (.tuple [a, b]) acc I := by
  intro H0 G H σ v j e dv Q q
  have hs : i < σ.length := by rw [e.len]; exact hi
  have hs2 : k < σ.length := by rw [e.len]; exact hk
  obtain ⟨ad, xs, rfl, hsq, ha⟩ := dp_tup dv
  cases ha with
  | cons d1 ha =>
    cases ha with
    | cons d2 ha =>
      cases ha
      refine ⟨ad, _, rfl, sqT_mono j.sub hsq, rfl, _, _, rfl, _, _, rfl, rfl, ?_⟩
      have e2 := (e.setD hs d1).setD (by rw [List.length_set]; exact hs2) d2
      have w1 : wipe σ [i, k] = (σ.set k none).set i none := rfl
      rename_i v1 v2
      have w2 : (((σ.set k none).set i none).set i (some v1)).set k (some v2) = (σ.set i (some v1)).set k (some v2) := by
        rw [List.set_set, List.set_comm _ _ (Ne.symm hik), List.set_set]
      rw [w1, w2]
      refine q _ _ e2 ?_ h
      show ((((σ.set i (some v1)).set k (some v2)).set k none).set i none) = (σ.set k none).set i none
      rw [List.set_set, List.set_comm _ _ hik, List.set_set, List.set_comm _ _ (Ne.symm hik)]

/-- the list of a comprehension while it grows -/
def Grow (K : PySem.W.Frag) (p : Option Addr) (G1 H1 : Hp) (D : Addr) (k : Nat) (I : List PyData → Prop) (H : Hp) : Prop :=
  ∃ G us acc, Xt p G1 H1 G H ∧ J p G H ∧ H D = some (.lst us) ∧ G D = none ∧ DpAll K G us acc ∧ acc.length ≤ k ∧ I acc
theorem grow_turn {G1 H1 H0 : Hp} {D : Addr} {k : Nat} {I I' : List PyData → Prop} {H : Hp} {σ : L2.St} {g : TG} {vs : List Nat} {x : PyData} {v : V}
    (hD : H1 D = none) (hp : p ≠ some D) (e : EnvOk K p H0 G1 H1 σ E) (dv : Dp K G1 v x) (hk : k < sizeLine) (q : Grow K p G1 H1 D k I H)
    (h : ∀ acc, I acc → Turn1 K p E g tt te vs x acc I') :
    g v (wipe σ vs) H fun σ2 H2 => wipe σ2 vs = wipe σ vs ∧ tt σ2 H2 fun b H3 =>
      if b = true then te σ2 H3 fun y H4 => ∃ acc, H4 D = some (.lst acc) ∧ acc.length < sizeLine ∧ Grow K p G1 H1 D (k + 1) I' (upd H4 D (.lst (acc ++ [y]))) else Grow K p G1 H1 D (k + 1) I' H3 := by
  obtain ⟨G, us, acc, x1, j1, h1, h2, h3, h4, h5⟩ := q
  refine h acc h5 H0 G H σ v j1 (e.mono x1) (dp_mono x1.gg x v dv) _ fun σ2 E2 e2 w2 wt => ⟨w2, ?_⟩
  refine wt H0 G H σ2 j1 e2 _ fun b G3 H3 x3 j3 hb => ?_
  have hD3 := x3.hh D _ hp h1
  have hG3 := x3.fr D hp (by rw [h1]; exact Option.some_ne_none _) h2
  cases b with
  | false => exact iteF ⟨G3, us, acc, x1.trans x3, j3, hD3, hG3, dpA_mono x3.gg acc us h3, by omega, hb.2 rfl⟩
  | true =>
    refine iteT (hb.1 rfl H0 G3 H3 σ2 j3 (e2.mono x3) _ fun y d G4 H4 x4 j4 dy hd => ?_)
    have hD4 := x4.hh D _ hp hD3
    have hG4 := x4.fr D hp (by rw [hD3]; exact Option.some_ne_none _) hG3
    have d4 := dpA_mono (x3.gg.trans x4.gg) acc us h3
    refine ⟨us, hD4, by rw [dpA_len d4]; omega, G4, us ++ [y], acc ++ [d], ((x1.trans x3).trans x4).chg hD, j4.made hG4 hp, upd_same, hG4, dpA_append d4 (.cons dy .nil), ?_, hd⟩
    rw [List.length_append, List.length_singleton]
    omega
theorem grow_start {G1 H1 : Hp} {D : Addr} {I : List PyData → Prop} (hD : H1 D = none) (j : J p G1 H1) (i : I []) : Grow K p G1 H1 D 0 I (upd H1 D (.lst [])) :=
  ⟨G1, [], [], Xt.made j hD, j.made (j.free hD) (j.ne hD), upd_same, j.free hD, .nil, Nat.le_refl _, i⟩
/-- [te for g in a list if tt] -/
theorem WM_lcL {g : TG} {vs : List Nat}
    (h : W K p E tl fun d => ∃ ds, d = .list ds ∧ ds.length ≤ sizeLine ∧ ∃ Inv : Nat → List PyData → Prop, Inv 0 [] ∧
      (∀ k x acc, ds[k]? = some x → Inv k acc → Turn1 K p E g tt te vs x acc (Inv (k + 1))) ∧ ∀ acc, Inv ds.length acc → Φ acc) :
    WM K p E (tLc (iList K tl) g tt te vs) Φ := by
  intro H0 G H σ j e Q q
  refine h H0 G H σ j e _ fun v d G1 H1 x1 j1 dv h1 => ?_
  obtain ⟨ds, rfl, hz, Inv, i0, is, id⟩ := h1
  obtain ⟨a, xs, rfl, hs, ha⟩ := dp_lst dv
  refine ⟨a, rfl, ⟨xs, j1.sub.seq hs⟩, fun D hD => ?_⟩
  refine lc_list (xs := xs) (fun k H' => Grow K p G1 H1 D k (Inv k) H') (grow_start hD j1 i0) ?_ ?_ ?_
  · rintro k H' _ ⟨G', us, acc, x', j', _⟩
    exact (x'.gg.trans j'.sub).seq hs
  · intro k y H' hy hg
    obtain ⟨d, hd, dy⟩ := dpA_at ha hy
    have hk : k < xs.length := (List.getElem?_eq_some_iff.mp hy).1
    exact grow_turn hD (j1.ne hD) (e.mono x1) dy (by rw [dpA_len ha] at hk; omega) hg fun acc i => is k d acc hd i
  · rintro H' ⟨G', us, acc, x', j', hD', hG', da, hl, hi⟩
    have hn : H D = none := by
      cases z : H D with
      | none => rfl
      | some o =>
        rw [x1.hh D o (j1.ne hD) z] at hD
        cases hD
    rw [dpA_len ha] at hi
    exact q D us acc G' H' (x1.trans x') j' hn hD' hG' da (id acc hi)
/-- [te for g in a tuple if tt] -/
theorem WM_lcT {g : TG} {vs : List Nat}
    (h : W K p E tl fun d => ∃ ds, d = .tuple ds ∧ ds.length ≤ sizeLine ∧ ∃ Inv : Nat → List PyData → Prop, Inv 0 [] ∧
      (∀ k x acc, ds[k]? = some x → Inv k acc → Turn1 K p E g tt te vs x acc (Inv (k + 1))) ∧ ∀ acc, Inv ds.length acc → Φ acc) :
    WM K p E (tLc (iTup K tl) g tt te vs) Φ := by
  intro H0 G H σ j e Q q
  refine h H0 G H σ j e _ fun v d G1 H1 x1 j1 dv h1 => ?_
  obtain ⟨ds, rfl, hz, Inv, i0, is, id⟩ := h1
  obtain ⟨a, xs, rfl, hs, ha⟩ := dp_tup dv
  refine ⟨a, rfl, ⟨xs, sqT_mono j1.sub hs⟩, fun D hD => ?_⟩
  refine lc_tup (xs := xs) (fun k H' => Grow K p G1 H1 D k (Inv k) H') (grow_start hD j1 i0) ?_ ?_ ?_
  · rintro k H' _ ⟨G', us, acc, x', j', _⟩
    exact sqT_mono (x'.gg.trans j'.sub) hs
  · intro k y H' hy hg
    obtain ⟨d, hd, dy⟩ := dpA_at ha hy
    have hk : k < xs.length := (List.getElem?_eq_some_iff.mp hy).1
    exact grow_turn hD (j1.ne hD) (e.mono x1) dy (by rw [dpA_len ha] at hk; omega) hg fun acc i => is k d acc hd i
  · rintro H' ⟨G', us, acc, x', j', hD', hG', da, hl, hi⟩
    have hn : H D = none := by
      cases z : H D with
      | none => rfl
      | some o =>
        rw [x1.hh D o (j1.ne hD) z] at hD
        cases hD
    rw [dpA_len ha] at hi
    exact q D us acc G' H' (x1.trans x') j' hn hD' hG' da (id acc hi)
/-- [te for g in range(n) if tt] -/
theorem WM_lcR1 {g : TG} {vs : List Nat} {tr : TA}
    (h : WA K p E tr fun ds => ∃ n : Int, ds = [.int n] ∧ n ≤ (sizeLine : Int) ∧ -(2 ^ 62) ≤ n ∧ ∃ Inv : Nat → List PyData → Prop, Inv 0 [] ∧
      (∀ (k : Nat) acc, (k : Int) < n → Inv k acc → Turn1 K p E g tt te vs (.int k) acc (Inv (k + 1))) ∧ ∀ acc, Inv n.toNat acc → Φ acc) :
    WM K p E (tLc (iRng1 tr) g tt te vs) Φ := by
  intro H0 G H σ j e Q q
  refine h H0 G H σ j e _ fun ws ds G1 H1 x1 j1 dv h1 => ?_
  obtain ⟨n, rfl, hz, hlo, Inv, i0, is, id⟩ := h1
  cases dv with
  | cons da db =>
    cases db
    cases da
    have hsz : sizeLine = 16777216 := sizeLine_eq
    refine ⟨n, rfl, hlo, by omega, fun D hD => ?_⟩
    refine lc_range (lo := 0) (n := n.toNat) (fun k H' => Grow K p G1 H1 D k (Inv k) H') (grow_start hD j1 i0) ?_ ?_
    · intro k H' hk hg
      have e0 : (0 : Int) + (k : Int) = (k : Int) := Int.zero_add _
      rw [e0]
      exact grow_turn hD (j1.ne hD) (e.mono x1) (.int (k : Int)) (by omega) hg fun acc i => is k acc (by omega) i
    · rintro H' ⟨G', us, acc, x', j', hD', hG', da, hl, hi⟩
      have hn : H D = none := by
        cases z : H D with
        | none => rfl
        | some o =>
          rw [x1.hh D o (j1.ne hD) z] at hD
          cases hD
      exact q D us acc G' H' (x1.trans x') j' hn hD' hG' da (id acc hi)
end

/-! ### a def's body against its promise -/
def ends (E : List PyData) (n : Nat) : Ev := E.map Sl.d ++ List.replicate n Sl.un
theorem env_start {K : PySem.W.Frag} {p : Option Addr} {G H : Hp} {N : List Str} {vs : List V} {ds : List PyData} (h : DpAll K G vs ds) (n : Nat) (hn : N.length = vs.length + n) :
    EnvOk K p H G H (start N vs) (ends ds n) := by
  have hl := dpA_len h
  have e1 : N.length - vs.length = n := by omega
  unfold L2.start ends
  rw [e1]
  refine ⟨by rw [List.length_append, List.length_append, List.length_map, List.length_map, List.length_replicate, List.length_replicate, hl], fun i s hs => ?_, fun a b ds' es l _ ha => ?_⟩
  · by_cases hi : i < ds.length
    · rw [List.getElem?_append_left (by rw [List.length_map]; exact hi), List.getElem?_map] at hs
      rw [List.getElem?_append_left (by rw [List.length_map, hl]; exact hi), List.getElem?_map]
      have hd : ds[i]? = some (ds[i]'hi) := List.getElem?_eq_getElem hi
      obtain ⟨v, h1, h2⟩ := dpA_get h hd
      rw [hd] at hs
      cases hs
      rw [h1]
      exact ⟨v, rfl, h2⟩
    · rw [List.getElem?_append_right (by rw [List.length_map]; omega), List.getElem?_replicate] at hs
      split at hs
      · cases hs
        trivial
      · cases hs
  · exfalso
    by_cases hi : a < ds.length
    · rw [List.getElem?_append_left (by rw [List.length_map]; exact hi), List.getElem?_map] at ha
      cases z : ds[a]? with
      | none => rw [z] at ha; cases ha
      | some d => rw [z] at ha; cases ha
    · rw [List.getElem?_append_right (by rw [List.length_map]; omega), List.getElem?_replicate] at ha
      split at ha
      · cases ha
      · cases ha
/-- the body of a def of data -/
theorem body_D {K : PySem.W.Frag} {ι : Type} {n : Nat} {args : ι → List PyData} {pre : ι → Prop} {out : ι → PyData → Prop} {t : TS} {N : List Str} {vs : List V} {H : Hp} {Q : VK} {E : XK} (m : Nat)
    (hN : N.length = n + m) (hsp : spD K n args pre out vs H Q E)
    (h : ∀ (p : Option Addr) (i : ι), pre i → (args i).length = n → S K p (ends (args i) m) t (fun _ => out i .none) (out i) Nev Nev) :
    t { nx := fun _ H' => Q .non H', rt := Q } (start N vs) H := by
  obtain ⟨hn, p, G, i, j, dv, hp, k⟩ := hsp
  refine h p i hp ((dpA_len dv).symm.trans hn) G H G H _ Xt.refl j (env_start dv m (by rw [hn]; exact hN)) _ ?_
  exact ⟨fun σ E G' H' x j' e o => k _ _ G' H' x j' .non o, fun v d G' H' x j' dv' o => k v d G' H' x j' dv' o, fun _ _ _ _ _ _ _ z => z.elim, fun _ _ _ _ _ _ _ z => z.elim⟩
/-- the body of a def whose first argument is the pail -/
theorem body_P {K : PySem.W.Frag} {ι : Type} {n : Nat} {args : ι → List PyData} {pre : ι → Prop} {out : ι → PyData → Prop} {t : TS} {N : List Str} {vs : List V} {H : Hp} {Q : VK} {E : XK} (m : Nat)
    (hN : N.length = n + m) (hsp : spP K n args pre out vs H Q E)
    (h : ∀ (a : Addr) (i : ι), pre i → (args i).length + 1 = n → S K (some a) (.v (.ref a) :: ends (args i) m) t (fun _ => out i .none) (out i) Nev Nev) :
    t { nx := fun _ H' => Q .non H', rt := Q } (start N vs) H := by
  obtain ⟨hn, a, ws, G, i, rfl, j, dv, hp, k⟩ := hsp
  rw [List.length_cons] at hn
  have e := env_start (K := K) (p := some a) (G := G) (H := H) (N := N.tail) dv m (by rw [List.length_tail]; omega)
  have e2 : start N (.ref a :: ws) = some (.ref a) :: start N.tail ws := by
    unfold L2.start
    rw [List.length_tail, List.length_cons, List.map_cons, List.cons_append]
    congr 3
    omega
  rw [e2]
  refine h a i hp (by rw [← dpA_len dv]; exact hn) G H G H _ Xt.refl j ⟨by rw [List.length_cons, List.length_cons, e.len], fun x s hs => ?_, fun x y ds es l hxy hx hy hl => ?_⟩ _ ?_
  · cases x with
    | zero =>
      cases hs
      exact rfl
    | succ x => exact e.at_ x s hs
  · cases x with
    | zero => cases hx
    | succ x =>
      cases y with
      | zero => cases hy
      | succ y => exact e.ap x y ds es l (fun z => hxy (by rw [z])) hx hy hl
  · exact ⟨fun σ E G' H' x j' e o => k _ _ G' H' x j' .non o, fun v d G' H' x j' dv' o => k v d G' H' x j' dv' o, fun _ _ _ _ _ _ _ z => z.elim, fun _ _ _ _ _ _ _ z => z.elim⟩
end Rim

/-! RimB: built-ins and operators over data. -/
namespace Rim
open PySem PySem.Spec L2

/-! ### readings by name -/
def CDivX (_ j : Int) : Prop := j ≠ 0 ∧ j.natAbs.log2 < 9000
abbrev rAdd : R2 := rI0 fun i j => .int (i + j)
abbrev rSub : R2 := rI0 fun i j => .int (i - j)
abbrev rMul : R2 := rI CMulX fun i j => .int (i * j)
abbrev rDiv : R2 := rI CDivX fun i j => .int (i.fdiv j)
abbrev rMod : R2 := rI (fun _ j => 0 < j) fun i j => .int (i % j)
abbrev rPow : R2 := rI CPow fun i j => .int (i ^ j.toNat)
abbrev rLt : R2 := rI0 fun i j => .bl (decide (i < j))
abbrev rLe : R2 := rI0 fun i j => .bl (decide (i ≤ j))
abbrev rGt : R2 := rI0 fun i j => .bl (decide (j < i))
abbrev rGe : R2 := rI0 fun i j => .bl (decide (j ≤ i))
section
variable {X : Cx}
theorem op_fdivX : OpR X (binaryOp .FloorDiv) rDiv := opI fun _ _ _ _ _ _ _ hc q => PyProof.Rows.floordiv_int hc.1 q (Or.inl (PyProof.noPylong_of_log2 hc.2))
def rRepr (K : PySem.W.Frag) : List V → Hp → VK → Prop := fun xs H Q => ∃ (x : V) (d : PyData), xs = [x] ∧ Dp K H x d ∧
  PyData.showable d = true ∧ PyData.hasDict d = false ∧ PyData.depth d ≤ 60 ∧ (PyData.shown d).length ≤ sizeLine ∧ Q (.str (PyData.shown d)) H
theorem cr_repr (hg : X.A.guards = some []) (hu : X.A.units + 64 < cLine) : CallR X (.builtin "repr") (rRepr X.K) := by
  intro pins s σ H xs us Q I r h
  obtain ⟨x, d, rfl, hd, h1, h2, h3, h4, q⟩ := h
  cases r with
  | @cons a b c e r0 r1 =>
    cases r1
    obtain ⟨as, rd⟩ := Dp.reads I d x b hd r0
    have fin : ∀ h' tk, (∀ b o, s.heap.get? b = some o → h'.get? b = some o) →
        EP X pins σ Q (.str (PyData.shown d) tk) { s with heap := h', toks := tk + 1 } := fun h' tk k => ⟨.str _, H, I.kept (t' := tk + 1) k, ⟨_, rfl⟩, q⟩
    cases d with
    | none =>
      cases hd
      cases r0
      exact PySem.P.repr_of_none ⟨.str _, H, I.tok _, ⟨_, rfl⟩, q⟩
    | bool k =>
      cases hd
      cases r0
      refine PySem.P.repr_of_bool ⟨.str _, H, I.tok _, ⟨_, rfl⟩, ?_⟩
      cases k <;> exact q
    | int i =>
      cases hd
      obtain ⟨t, rfl⟩ := r0
      exact PySem.P.repr_of_int (of_decide_eq_true (by simpa only [PyData.showable] using h1)) ⟨.str _, H, I.tok _, ⟨_, rfl⟩, q⟩
    | str y =>
      cases hd
      obtain ⟨t, rfl⟩ := r0
      exact PySem.P.repr_of_str ⟨.str _, H, I.tok _, ⟨_, rfl⟩, q⟩ h4
    | list ds =>
      cases hd
      cases r0
      exact repr_of_reads' rd h1 (PyData.noDict_hsm h2) hg (by omega) (fun _ _ e => e) (fun h' u tk k => ⟨.str _, H, I.kept k, ⟨_, rfl⟩, q⟩) h4
    | tuple ds =>
      cases hd
      cases r0
      exact repr_of_reads' rd h1 (PyData.noDict_hsm h2) hg (by omega) (fun _ _ e => e) (fun h' u tk k => ⟨.str _, H, I.kept k, ⟨_, rfl⟩, q⟩) h4
    | dict kvs => cases hd
def rLenS (K : PySem.W.Frag) : List V → Hp → VK → Prop := fun xs H Q => ∃ p ys, xs = [.ref p] ∧ (SqL K H p ys ∨ SqT K H p ys) ∧ Q (.int ys.length) H
theorem cr_len : CallR X (.builtin "len") (rLenS X.K) := call_len_seq
def rAbs : List V → Hp → VK → Prop := fun xs H Q => ∃ i, xs = [.int i] ∧ Q (.int (if i < 0 then -i else i)) H
theorem cr_abs : CallR X (.builtin "abs") rAbs := call_abs
def rInt1 : List V → Hp → VK → Prop := fun xs H Q => (∃ i, xs = [.int i] ∧ Q (.int i) H) ∨ ∃ k, xs = [.bl k] ∧ Q (.int (if k then 1 else 0)) H
theorem cr_int : CallR X (.type "int") rInt1 := call_int1
def rStrI : List V → Hp → VK → Prop := fun xs H Q => ∃ i, xs = [.int i] ∧ i.natAbs.log2 < 1920 ∧ Q (.str (toString i)) H
theorem cr_strI : CallR X (.type "str") rStrI := call_str_int
def rDivmod : List V → Hp → VK → Prop := fun xs H Q => ∃ i j, xs = [.int i, .int j] ∧ CDiv i j ∧ ∀ p, H p = none → Q (.ref p) (upd H p (.tup [.int (i / j), .int (i % j)]))
theorem cr_divmod : CallR X (.builtin "divmod") rDivmod := call_divmod
def rMax2 : List V → Hp → VK → Prop := fun xs H Q => ∃ i j, xs = [.int i, .int j] ∧ Q (.int (if j > i then j else i)) H
theorem cr_max2 (hc : X.calm = true) : CallR X (.builtin "max") rMax2 := call_max2 hc
def rMin2 : List V → Hp → VK → Prop := fun xs H Q => ∃ i j, xs = [.int i, .int j] ∧ Q (.int (if j < i then j else i)) H
theorem cr_min2 (hc : X.calm = true) : CallR X (.builtin "min") rMin2 := call_min2 hc
def rTupOf (K : PySem.W.Frag) : List V → Hp → VK → Prop := fun xs H Q => ∃ p ys, xs = [.ref p] ∧ ((SqL K H p ys ∧ ∀ l, H l = none → Q (.ref l) (upd H l (.tup ys))) ∨ (SqT K H p ys ∧ Q (.ref p) H))
theorem cr_tupOf : CallR X (.type "tuple") (rTupOf X.K) := call_tuple_of
def rLstOf (K : PySem.W.Frag) : List V → Hp → VK → Prop := fun xs H Q => ∃ p ys, xs = [.ref p] ∧ (SqL K H p ys ∨ SqT K H p ys) ∧ ∀ l, H l = none → Q (.ref l) (upd H l (.lst ys))
theorem cr_lstOf : CallR X (.type "list") (rLstOf X.K) := call_list_of
end

/-! ### what may be shown -/
mutual
def Shw : PyData → Prop
  | .none => True
  | .bool _ => True
  | .int i => i.natAbs < 2 ^ 1900
  | .str x => ∀ c ∈ x.cps.toList, c < 16 ^ 8
  | .list xs => ShwAll xs
  | .tuple xs => ShwAll xs
  | .dict _ => False
def ShwAll : List PyData → Prop
  | [] => True
  | x :: xs => Shw x ∧ ShwAll xs
end
mutual
def cnt : PyData → Nat
  | .none => 1
  | .bool _ => 1
  | .int _ => 1
  | .str x => x.length + 1
  | .list xs => 1 + cntAll xs
  | .tuple xs => 1 + cntAll xs
  | .dict _ => 0
def cntAll : List PyData → Nat
  | [] => 0
  | x :: xs => cnt x + cntAll xs
end
theorem log_of {i : Int} (h : i.natAbs < 2 ^ 1900) : i.natAbs.log2 < 1920 := Nat.lt_of_lt_of_le (PySem.Flt.log2_lt_of (by decide) h) (by decide)
mutual
theorem shw_ok : ∀ d : PyData, Shw d → PyData.showable d = true ∧ PyData.hasDict d = false ∧ (PyData.shown d).length + 2 ≤ 2000 * cnt d
  | .none, _ => ⟨by simp only [PyData.showable], by simp only [PyData.hasDict], by simp only [PyData.shown, cnt]; decide⟩
  | .bool b, _ => ⟨by simp only [PyData.showable], by simp only [PyData.hasDict], by simp only [PyData.shown, cnt]; cases b <;> decide⟩
  | .int i, h => by
    have h1 : i.natAbs < 2 ^ 1900 := by simpa only [Shw] using h
    refine ⟨by simp only [PyData.showable]; exact decide_eq_true (log_of h1), by simp only [PyData.hasDict], ?_⟩
    have h2 := int_text_length_le (k := 1920) (by decide) (log_of h1)
    simp only [PyData.shown, cnt, ofString_length]
    omega
  | .str x, h => by
    have h1 : ∀ c ∈ x.cps.toList, c < 16 ^ 8 := by simpa only [Shw] using h
    refine ⟨by simp only [PyData.showable], by simp only [PyData.hasDict], ?_⟩
    have h2 := StrLaws.reprText_len x h1
    simp only [PyData.shown, cnt]
    omega
  | .list xs, h => by
    obtain ⟨h1, h2, h3⟩ := shwAll_ok xs (by simpa only [Shw] using h)
    refine ⟨by simpa only [PyData.showable] using h1, by simpa only [PyData.hasDict] using h2, ?_⟩
    have h4 := listText_len_le (PyData.shownAll xs)
    have h5 := shownAll_len xs
    simp only [PyData.shown, cnt]
    omega
  | .tuple xs, h => by
    obtain ⟨h1, h2, h3⟩ := shwAll_ok xs (by simpa only [Shw] using h)
    refine ⟨by simpa only [PyData.showable] using h1, by simpa only [PyData.hasDict] using h2, ?_⟩
    have h4 := tupleText_len_le (PyData.shownAll xs)
    have h5 := shownAll_len xs
    simp only [PyData.shown, cnt]
    omega
  | .dict _, h => by simp only [Shw] at h
theorem shownAll_len : ∀ xs : List PyData, (PyData.shownAll xs).length = xs.length
  | [] => by simp only [PyData.shownAll, List.length_nil]
  | x :: xs => by simp only [PyData.shownAll, List.length_cons, shownAll_len xs]
theorem shwAll_ok : ∀ xs : List PyData, ShwAll xs → PyData.showableAll xs = true ∧ PyData.hasDictAll xs = false ∧ ((PyData.shownAll xs).map (·.length)).sum + 2 * xs.length ≤ 2000 * cntAll xs
  | [], _ => ⟨by simp only [PyData.showableAll], by simp only [PyData.hasDictAll], by simp only [PyData.shownAll, cntAll, List.map_nil, List.sum_nil, List.length_nil]; decide⟩
  | x :: xs, h => by
    have h0 : Shw x ∧ ShwAll xs := by simpa only [ShwAll] using h
    obtain ⟨a1, a2, a3⟩ := shw_ok x h0.1
    obtain ⟨b1, b2, b3⟩ := shwAll_ok xs h0.2
    refine ⟨by simp only [PyData.showableAll, a1, b1]; rfl, by simp only [PyData.hasDictAll, a2, b2]; rfl, ?_⟩
    simp only [PyData.shownAll, cntAll, List.map_cons, List.sum_cons, List.length_cons]
    omega
end

/-! ### rules -/
section
variable {K : PySem.W.Frag} {p : Option Addr} {E : Ev} {ta tb te : TE} {Φ : PyData → Prop} {Ψ : List PyData → Prop}
theorem WC_repr {d : PyData} (h : Shw d) (hc : cnt d ≤ 8000) (hd : PyData.depth d ≤ 60) (k : Φ (.str (PyData.shown d))) : WC K p (rRepr K) [d] Φ := by
  intro G H vs j dv Q q
  cases dv with
  | @cons v _ _ _ a b =>
    cases b
    obtain ⟨h1, h2, h3⟩ := shw_ok d h
    refine ⟨v, d, rfl, dp_mono j.sub d v a, h1, h2, hd, ?_, q _ _ G H Xt.refl j (.str _) k⟩
    rw [sizeLine_eq]
    omega
theorem WC_lenT {ds : List PyData} (k : Φ (.int ds.length)) : WC K p (rLenS K) [.tuple ds] Φ := by
  intro G H vs j dv Q q
  cases dv with
  | cons a b =>
    cases b
    obtain ⟨l, xs, rfl, hs, ha⟩ := dp_tup a
    refine ⟨l, xs, rfl, Or.inr (sqT_mono j.sub hs), q _ (.int ds.length) G H Xt.refl j ?_ k⟩
    rw [dpA_len ha]
    exact .int _
theorem WC_lenL {ds : List PyData} (k : Φ (.int ds.length)) : WC K p (rLenS K) [.list ds] Φ := by
  intro G H vs j dv Q q
  cases dv with
  | cons a b =>
    cases b
    obtain ⟨l, xs, rfl, hs, ha⟩ := dp_lst a
    refine ⟨l, xs, rfl, Or.inl (j.sub.seq hs), q _ (.int ds.length) G H Xt.refl j ?_ k⟩
    rw [dpA_len ha]
    exact .int _
/-- len of a list of one's own -/
theorem W_lenM {i : Nat} {ds : List PyData} (hs : E[i]? = some (.m ds)) (k : Φ (.int ds.length)) : W K p E (tCB (rLenS K) (tCons (tVar i) tNil)) Φ := by
  intro H0 G H σ j e Q q
  obtain ⟨l, vs, h1, h2, h3, _⟩ := e.own hs
  refine ⟨_, h1, l, vs, rfl, Or.inl (SqL.of h2), q _ (.int ds.length) G H Xt.refl j ?_ k⟩
  rw [dpA_len h3]
  exact .int _
theorem WC_abs {i : Int} (k : Φ (.int (if i < 0 then -i else i))) : WC K p rAbs [.int i] Φ := by
  intro G H vs j dv Q q
  cases dv with
  | cons a b =>
    cases b
    rw [dp_int a]
    exact ⟨i, rfl, q _ _ G H Xt.refl j (.int _) k⟩
theorem WC_int {i : Int} (k : Φ (.int i)) : WC K p rInt1 [.int i] Φ := by
  intro G H vs j dv Q q
  cases dv with
  | cons a b =>
    cases b
    rw [dp_int a]
    exact Or.inl ⟨i, rfl, q _ _ G H Xt.refl j (.int _) k⟩
theorem WC_gcd {a b : Int} (k : Φ (.int ((Nat.gcd a.natAbs b.natAbs : Nat) : Int))) : WC K p rGcd [.int a, .int b] Φ := by
  intro G H vs j dv Q q
  cases dv with
  | cons x y =>
    cases y with
    | cons y z =>
      cases z
      rw [dp_int x, dp_int y]
      exact ⟨a, b, rfl, q _ _ G H Xt.refl j (.int _) k⟩
theorem WC_max2 {a b : Int} (k : Φ (.int (if b > a then b else a))) : WC K p rMax2 [.int a, .int b] Φ := by
  intro G H vs j dv Q q
  cases dv with
  | cons x y =>
    cases y with
    | cons y z =>
      cases z
      rw [dp_int x, dp_int y]
      exact ⟨a, b, rfl, q _ _ G H Xt.refl j (.int _) k⟩
theorem WC_min2 {a b : Int} (k : Φ (.int (if b < a then b else a))) : WC K p rMin2 [.int a, .int b] Φ := by
  intro G H vs j dv Q q
  cases dv with
  | cons x y =>
    cases y with
    | cons y z =>
      cases z
      rw [dp_int x, dp_int y]
      exact ⟨a, b, rfl, q _ _ G H Xt.refl j (.int _) k⟩
theorem WC_divmod {a b : Int} (h : 0 < b ∧ b < 1073741824) (k : Φ (.tuple [.int (a / b), .int (a % b)])) : WC K p rDivmod [.int a, .int b] Φ := by
  intro G H vs j dv Q q
  cases dv with
  | cons x y =>
    cases y with
    | cons y z =>
      cases z
      rw [dp_int x, dp_int y]
      refine ⟨a, b, rfl, h, fun l hl => ?_⟩
      exact q _ _ _ _ (Xt.laid j hl) (j.laid hl) (.tup (SqT.of upd_same) (.cons (.int _) (.cons (.int _) .nil))) k
theorem WC_tupL {ds : List PyData} (k : Φ (.tuple ds)) : WC K p (rTupOf K) [.list ds] Φ := by
  intro G H vs j dv Q q
  cases dv with
  | cons a b =>
    cases b
    obtain ⟨l, xs, rfl, hs, ha⟩ := dp_lst a
    refine ⟨l, xs, rfl, Or.inl ⟨j.sub.seq hs, fun m hm => ?_⟩⟩
    have x2 := Xt.laid (p := p) j (o := .tup xs) hm
    exact q _ _ _ _ x2 (j.laid hm) (.tup (SqT.of upd_same) (dpA_mono x2.gg ds xs ha)) k
theorem WC_tupT {ds : List PyData} (k : Φ (.tuple ds)) : WC K p (rTupOf K) [.tuple ds] Φ := by
  intro G H vs j dv Q q
  cases dv with
  | cons a b =>
    cases b
    obtain ⟨l, xs, rfl, hs, ha⟩ := dp_tup a
    exact ⟨l, xs, rfl, Or.inr ⟨sqT_mono j.sub hs, q _ _ G H Xt.refl j (.tup hs ha) k⟩⟩
/-- tuple(xs), xs a list of one's own -/
theorem W_tupM {i : Nat} {ds : List PyData} (hs : E[i]? = some (.m ds)) (k : Φ (.tuple ds)) : W K p E (tCB (rTupOf K) (tCons (tVar i) tNil)) Φ := by
  intro H0 G H σ j e Q q
  obtain ⟨l, vs, h1, h2, h3, _⟩ := e.own hs
  refine ⟨_, h1, l, vs, rfl, Or.inl ⟨SqL.of h2, fun m hm => ?_⟩⟩
  have x2 := Xt.laid (p := p) j (o := .tup vs) hm
  exact q _ _ _ _ x2 (j.laid hm) (.tup (SqT.of upd_same) (dpA_mono x2.gg ds vs h3)) k
/-- list(t) -/
theorem WM_lstOf {tr : TA} (h : WA K p E tr fun xs => ∃ ds, (xs = [.tuple ds] ∨ xs = [.list ds]) ∧ Ψ ds) : WM K p E (tCB (rLstOf K) tr) Ψ := by
  intro H0 G H σ j e Q q
  refine h H0 G H σ j e _ fun vs xs G1 H1 x1 j1 dv h1 => ?_
  obtain ⟨ds, hx, hk⟩ := h1
  have fin : ∀ (l : Addr) (us : List V), DpAll K G1 us ds → H1 l = none → Q (.ref l) (upd H1 l (.lst us)) := fun l us da hl => by
    have hn : H l = none := by
      cases z : H l with
      | none => rfl
      | some o =>
        rw [x1.hh l o (j1.ne hl) z] at hl
        cases hl
    exact q l us ds G1 _ (x1.trans (Xt.made j1 hl)) (j1.made (j1.free hl) (j1.ne hl)) hn upd_same (j1.free hl) da hk
  rcases hx with rfl | rfl
  · cases dv with
    | cons a b =>
      cases b
      obtain ⟨m, us, rfl, hs, ha⟩ := dp_tup a
      exact ⟨m, us, rfl, Or.inr (sqT_mono j1.sub hs), fun l hl => fin l us ha hl⟩
  · cases dv with
    | cons a b =>
      cases b
      obtain ⟨m, us, rfl, hs, ha⟩ := dp_lst a
      exact ⟨m, us, rfl, Or.inl (j1.sub.seq hs), fun l hl => fin l us ha hl⟩
theorem WC_all {bs : List Bool} (k : Φ (.bool (bs.all id))) : WC K p (rAll K) [.list (bs.map PyData.bool)] Φ := by
  intro G H vs j dv Q q
  cases dv with
  | cons a b =>
    cases b
    obtain ⟨l, xs, rfl, hs, ha⟩ := dp_lst a
    have e : ∀ (us : List V) (cs : List Bool), DpAll K G us (cs.map PyData.bool) → us = cs.map V.bl := by
      intro us cs
      induction cs generalizing us with
      | nil => intro h; cases h; rfl
      | cons c cs ih =>
        intro h
        cases h with
        | cons h1 h2 => rw [dp_bl h1, ih _ h2]; rfl
    refine ⟨l, bs, rfl, ?_, q _ _ G H Xt.refl j (.bl _) k⟩
    rw [← e xs bs ha]
    exact j.sub.seq hs
/-- t[a:b] of a tuple -/
theorem cut_ds {G : Hp} {vs : List V} {ds : List PyData} (lo hi : Option Int) (h : DpAll K G vs ds) :
    DpAll K G (cutV vs lo hi) ((ds.drop (HT.sIx ds.length 0 lo)).take (HT.sIx ds.length ds.length hi - HT.sIx ds.length 0 lo)) := by
  unfold cutV
  rw [dpA_len h]
  exact dpA_take _ (dpA_drop _ h)

/-! ### isinstance -/
def tyD : PyData → String
  | .none => "NoneType"
  | .bool _ => "bool"
  | .int _ => "int"
  | .str _ => "str"
  | .list _ => "list"
  | .tuple _ => "tuple"
  | .dict _ => "dict"
theorem ty_of {G H : Hp} {v : V} {d : PyData} (s : Same G H) (h : Dp K G v d) : TyX K H v (.type (tyD d)) := by
  cases h with
  | non => exact .base .non
  | bl b => exact .base (.bl b)
  | int i => exact .base (.int i)
  | str x => exact .base (.str x)
  | lst hs ha =>
    rcases s.seq hs with (h | ⟨o, h⟩) | ⟨o, its, n, h1, h2, _⟩
    · exact .base (.lst h)
    · exact .base (.frz h)
    · exact .kList h1 h2
  | tup hs ha =>
    rcases sqT_mono s hs with (h | ⟨o, h⟩) | ⟨o, its, n, h1, h2, _⟩
    · exact .base (.tup h)
    · exact .fTuple h
    · exact .kTuple h1 h2
theorem W_isi {T : String} (h : W K p E ta fun d => ∃ b, kitB (tyD d) T = some b ∧ Φ (.bool b)) : W K p E (tCB (rIsi K) (tCons ta (tCons (tC (.ty T)) tNil))) Φ := by
  intro H0 G H σ j e Q q
  refine h H0 G H σ j e _ fun v d G1 H1 x1 j1 dv h1 => ?_
  obtain ⟨b, hb, hk⟩ := h1
  exact ⟨v, .ty T, _, _, b, rfl, .ty T, ty_of j1.sub dv, kit_ty hb, q _ _ G1 H1 x1 j1 (.bl b) hk⟩
def is_int : PyData → Bool
  | .bool _ => true
  | .int _ => true
  | _ => false
theorem kit_int : ∀ d : PyData, kitB (tyD d) "int" = some (is_int d)
  | .none  => (by decide +kernel : kitB "NoneType" "int" = some false)
  | .bool _ => (by decide +kernel : kitB "bool" "int" = some true)
  | .int _ => (by decide +kernel : kitB "int" "int" = some true)
  | .str _ => (by decide +kernel : kitB "str" "int" = some false)
  | .list _ => (by decide +kernel : kitB "list" "int" = some false)
  | .tuple _ => (by decide +kernel : kitB "tuple" "int" = some false)
  | .dict _ => (by decide +kernel : kitB "dict" "int" = some false)
def is_bool : PyData → Bool
  | .bool _ => true
  | _ => false
theorem kit_bool : ∀ d : PyData, kitB (tyD d) "bool" = some (is_bool d)
  | .none  => (by decide +kernel : kitB "NoneType" "bool" = some false)
  | .bool _ => (by decide +kernel : kitB "bool" "bool" = some true)
  | .int _ => (by decide +kernel : kitB "int" "bool" = some false)
  | .str _ => (by decide +kernel : kitB "str" "bool" = some false)
  | .list _ => (by decide +kernel : kitB "list" "bool" = some false)
  | .tuple _ => (by decide +kernel : kitB "tuple" "bool" = some false)
  | .dict _ => (by decide +kernel : kitB "dict" "bool" = some false)
def is_tuple : PyData → Bool
  | .tuple _ => true
  | _ => false
theorem kit_tuple : ∀ d : PyData, kitB (tyD d) "tuple" = some (is_tuple d)
  | .none  => (by decide +kernel : kitB "NoneType" "tuple" = some false)
  | .bool _ => (by decide +kernel : kitB "bool" "tuple" = some false)
  | .int _ => (by decide +kernel : kitB "int" "tuple" = some false)
  | .str _ => (by decide +kernel : kitB "str" "tuple" = some false)
  | .list _ => (by decide +kernel : kitB "list" "tuple" = some false)
  | .tuple _ => (by decide +kernel : kitB "tuple" "tuple" = some true)
  | .dict _ => (by decide +kernel : kitB "dict" "tuple" = some false)
def is_list : PyData → Bool
  | .list _ => true
  | _ => false
theorem kit_list : ∀ d : PyData, kitB (tyD d) "list" = some (is_list d)
  | .none  => (by decide +kernel : kitB "NoneType" "list" = some false)
  | .bool _ => (by decide +kernel : kitB "bool" "list" = some false)
  | .int _ => (by decide +kernel : kitB "int" "list" = some false)
  | .str _ => (by decide +kernel : kitB "str" "list" = some false)
  | .list _ => (by decide +kernel : kitB "list" "list" = some true)
  | .tuple _ => (by decide +kernel : kitB "tuple" "list" = some false)
  | .dict _ => (by decide +kernel : kitB "dict" "list" = some false)
def is_str : PyData → Bool
  | .str _ => true
  | _ => false
theorem kit_str : ∀ d : PyData, kitB (tyD d) "str" = some (is_str d)
  | .none  => (by decide +kernel : kitB "NoneType" "str" = some false)
  | .bool _ => (by decide +kernel : kitB "bool" "str" = some false)
  | .int _ => (by decide +kernel : kitB "int" "str" = some false)
  | .str _ => (by decide +kernel : kitB "str" "str" = some true)
  | .list _ => (by decide +kernel : kitB "list" "str" = some false)
  | .tuple _ => (by decide +kernel : kitB "tuple" "str" = some false)
  | .dict _ => (by decide +kernel : kitB "dict" "str" = some false)
end
end Rim

/-! RimM: fractions as data, their sizes. -/
namespace Rim
open PySem PySem.Spec L2

/-! ### sizes -/
def Bd (n : Nat) (i : Int) : Prop := i.natAbs < 2 ^ n
theorem Bd.mono {n m : Nat} {i : Int} (h : Bd n i) (k : n ≤ m) : Bd m i := Nat.lt_of_lt_of_le h (Nat.pow_le_pow_right (by decide) k)
theorem Bd.mul {n m : Nat} {i j : Int} (h : Bd n i) (k : Bd m j) : Bd (n + m) (i * j) := by
  unfold Bd
  rw [Int.natAbs_mul, Nat.pow_add]
  exact Nat.mul_lt_mul'' h k
theorem Bd.add {n m : Nat} {i j : Int} (h : Bd n i) (k : Bd m j) : Bd (max n m + 1) (i + j) := by
  have h1 := h.mono (Nat.le_max_left n m)
  have k1 := k.mono (Nat.le_max_right n m)
  unfold Bd at *
  rw [Nat.pow_succ]
  omega
theorem Bd.neg {n : Nat} {i : Int} (h : Bd n i) : Bd n (-i) := by
  unfold Bd at *
  rw [Int.natAbs_neg]
  exact h
theorem Bd.sub {n m : Nat} {i j : Int} (h : Bd n i) (k : Bd m j) : Bd (max n m + 1) (i - j) := by
  rw [Int.sub_eq_add_neg]
  exact h.add k.neg
theorem Bd.lit {n : Nat} {i : Int} (h : i.natAbs < 2 ^ n) : Bd n i := h
theorem Bd.le {n : Nat} {i j : Int} (h : i.natAbs ≤ j.natAbs) (k : Bd n j) : Bd n i := Nat.lt_of_le_of_lt h k
theorem mul_ok {n m : Nat} {i j : Int} (h : Bd n i) (k : Bd m j) (z : n + m ≤ 134217728) : CMulX i j := mulx_ok h k z
theorem div_ok {n : Nat} {i j : Int} (h : Bd n j) (h0 : j ≠ 0) (z : n ≤ 8000) : CDivX i j := by
  refine ⟨h0, Nat.lt_of_le_of_lt ?_ (show 8000 < 9000 by decide)⟩
  have h1 : j.natAbs < 2 ^ 8000 := h.mono z
  have h2 : j.natAbs ≠ 0 := by omega
  exact Nat.le_of_lt ((Nat.log2_lt h2).mpr h1)

/-! ### results by name -/
section
variable {K : PySem.W.Frag} {p : Option Addr} {Φ : PyData → Prop} {i k : Int}
theorem WR_add (q : Φ (.int (i + k))) : WR K p rAdd (.int i) (.int k) Φ := WR_I0 rfl q
theorem WR_sub (q : Φ (.int (i - k))) : WR K p rSub (.int i) (.int k) Φ := WR_I0 rfl q
theorem WR_mul (c : CMulX i k) (q : Φ (.int (i * k))) : WR K p rMul (.int i) (.int k) Φ := WR_I c rfl q
theorem WR_div (c : CDivX i k) (q : Φ (.int (i.fdiv k))) : WR K p rDiv (.int i) (.int k) Φ := WR_I c rfl q
theorem WR_mod (c : 0 < k) (q : Φ (.int (i % k))) : WR K p rMod (.int i) (.int k) Φ := WR_I c rfl q
theorem WR_pow (c : CPow i k) (q : Φ (.int (i ^ k.toNat))) : WR K p rPow (.int i) (.int k) Φ := WR_I c rfl q
theorem WR_lt (q : Φ (.bool (decide (i < k)))) : WR K p rLt (.int i) (.int k) Φ := WR_I0 rfl q
theorem WR_le (q : Φ (.bool (decide (i ≤ k)))) : WR K p rLe (.int i) (.int k) Φ := WR_I0 rfl q
theorem WR_gt (q : Φ (.bool (decide (k < i)))) : WR K p rGt (.int i) (.int k) Φ := WR_I0 rfl q
theorem WR_ge (q : Φ (.bool (decide (k ≤ i)))) : WR K p rGe (.int i) (.int k) Φ := WR_I0 rfl q
theorem S_never {E : Ev} {N B C : Ev → Prop} {R : PyData → Prop} (h : False) : S K p E tNever N R B C := h.elim
end

/-! ### fractions -/
@[reducible] def fr (q : Rat) : PyData := .tuple [.int q.num, .int q.den]
def Rs (n : Nat) (q : Rat) : Prop := Bd n q.num ∧ Bd n (q.den : Int)
theorem Rs.num {n : Nat} {q : Rat} (h : Rs n q) : Bd n q.num := h.1
theorem Rs.den {n : Nat} {q : Rat} (h : Rs n q) : Bd n (q.den : Int) := h.2
theorem Rs.mono {n m : Nat} {q : Rat} (h : Rs n q) (k : n ≤ m) : Rs m q := ⟨h.1.mono k, h.2.mono k⟩
theorem den_ne (q : Rat) : (q.den : Int) ≠ 0 := by have := q.den_nz; omega
theorem den_pos (q : Rat) : 0 < (q.den : Int) := by have := q.den_nz; omega

/-- n over m -/
abbrev qd (n m : Int) : Rat := Rat.divInt n m
theorem qd_div (n m : Int) : qd n m = (n : Rat) / (m : Rat) := Rat.divInt_eq_div n m
theorem q_self (q : Rat) : qd q.num (q.den : Int) = q := Rat.num_divInt_den q
theorem q_over (q : Rat) : q = (q.num : Rat) / ((q.den : Int) : Rat) := by
  rw [← qd_div, q_self]
theorem c_ne {m : Int} (h : m ≠ 0) : (m : Rat) ≠ 0 := fun z => h (Rat.intCast_eq_zero_iff.mp z)
theorem d_ne (q : Rat) : ((q.den : Int) : Rat) ≠ 0 := c_ne (den_ne q)
theorem sgn_gcd (a b : Int) : ((b.gcd a : Nat) : Int) ∣ b.sign * a := by
  have h : ((b.gcd a : Nat) : Int) ∣ a := Int.gcd_dvd_right ..
  exact Int.dvd_trans h (Int.dvd_mul_left _ _)
theorem rs_of {n : Nat} {a b : Int} (ha : Bd n a) (hb : Bd n b) (h0 : b ≠ 0) : Rs n (qd a b) := by
  constructor
  · show (qd a b).num.natAbs < 2 ^ n
    rw [Rat.num_divInt, Int.natAbs_ediv_of_dvd (sgn_gcd a b), Int.natAbs_mul]
    refine Nat.lt_of_le_of_lt (Nat.div_le_self _ _) ?_
    rw [Int.natAbs_sign_of_ne_zero h0, Nat.one_mul]
    exact ha
  · show ((qd a b).den : Int).natAbs < 2 ^ n
    rw [Rat.den_divInt, if_neg h0, Int.natAbs_natCast]
    exact Nat.lt_of_le_of_lt (Nat.div_le_self _ _) hb
theorem q_add (x y : Rat) : qd (x.num * y.den + y.num * x.den) (x.den * y.den) = x + y := by
  conv => rhs; rw [← q_self x, ← q_self y]
  exact (Rat.divInt_add_divInt _ _ (den_ne x) (den_ne y)).symm
theorem q_sub (x y : Rat) : qd (x.num * y.den - y.num * x.den) (x.den * y.den) = x - y := by
  conv => rhs; rw [← q_self x, ← q_self y]
  exact (Rat.divInt_sub_divInt _ _ (den_ne x) (den_ne y)).symm
theorem q_mul (x y : Rat) : qd (x.num * y.num) (x.den * y.den) = x * y := by
  conv => rhs; rw [← q_self x, ← q_self y]
  exact (Rat.divInt_mul_divInt _ _).symm
theorem q_div (x y : Rat) (h : y ≠ 0) : qd (x.num * y.den) (x.den * y.num) = x / y := by
  have h1 := d_ne x
  have h2 := d_ne y
  have h3 : (y.num : Rat) ≠ 0 := c_ne fun z => h (Rat.num_eq_zero.mp z)
  rw [qd_div]
  conv => rhs; rw [q_over x, q_over y]
  rw [Rat.intCast_mul, Rat.intCast_mul]
  generalize ((x.den : Int) : Rat) = a at *
  generalize ((y.den : Int) : Rat) = b at *
  generalize (x.num : Rat) = c at *
  generalize (y.num : Rat) = d at *
  grind
theorem Rs.add {n m : Nat} {x y : Rat} (hx : Rs n x) (hy : Rs m y) : Rs (n + m + 1) (x + y) := by
  rw [← q_add]
  refine rs_of (((hx.1.mul hy.2).add (hy.1.mul hx.2)).mono ?_) ((hx.2.mul hy.2).mono ?_) ?_
  · omega
  · omega
  · exact Int.mul_ne_zero (den_ne x) (den_ne y)
theorem Rs.sub {n m : Nat} {x y : Rat} (hx : Rs n x) (hy : Rs m y) : Rs (n + m + 1) (x - y) := by
  rw [← q_sub]
  refine rs_of (((hx.1.mul hy.2).sub (hy.1.mul hx.2)).mono ?_) ((hx.2.mul hy.2).mono ?_) ?_
  · omega
  · omega
  · exact Int.mul_ne_zero (den_ne x) (den_ne y)
theorem Rs.mul {n m : Nat} {x y : Rat} (hx : Rs n x) (hy : Rs m y) : Rs (n + m) (x * y) := by
  rw [← q_mul]
  exact rs_of (hx.1.mul hy.1) (hx.2.mul hy.2) (Int.mul_ne_zero (den_ne x) (den_ne y))
theorem Rs.div {n m : Nat} {x y : Rat} (hx : Rs n x) (hy : Rs m y) (h : y ≠ 0) : Rs (n + m) (x / y) := by
  rw [← q_div x y h]
  exact rs_of (hx.1.mul hy.2) (hx.2.mul hy.1) (Int.mul_ne_zero (den_ne x) fun z => h (Rat.num_eq_zero.mp z))
theorem Rs.neg {n : Nat} {x : Rat} (hx : Rs n x) : Rs n (-x) := by
  constructor
  · exact (show (-x).num = -x.num from rfl) ▸ hx.1.neg
  · exact hx.2
/-- what reduced reckons -/
theorem red_pos (n m : Int) (h : 0 < m) : n.fdiv ((Nat.gcd n.natAbs m.natAbs : Nat) : Int) = (qd n m).num ∧ m.fdiv ((Nat.gcd n.natAbs m.natAbs : Nat) : Int) = ((qd n m).den : Int) := by
  have e : Nat.gcd n.natAbs m.natAbs = m.gcd n := by rw [Nat.gcd_comm]; rfl
  have hg : (0 : Int) ≤ ((m.gcd n : Nat) : Int) := Int.natCast_nonneg _
  rw [e, Int.fdiv_eq_ediv_of_nonneg _ hg, Int.fdiv_eq_ediv_of_nonneg _ hg]
  constructor
  · rw [Rat.num_divInt, Int.sign_eq_one_of_pos h, Int.one_mul]
  · rw [Rat.den_divInt, if_neg (by omega), Int.natCast_ediv, Int.natAbs_of_nonneg (by omega)]
theorem red_neg (n m : Int) (h : m < 0) : n.fdiv (-((Nat.gcd n.natAbs m.natAbs : Nat) : Int)) = (qd n m).num ∧ m.fdiv (-((Nat.gcd n.natAbs m.natAbs : Nat) : Int)) = ((qd n m).den : Int) := by
  have h1 := red_pos (-n) (-m) (by omega)
  rw [Int.natAbs_neg, Int.natAbs_neg] at h1
  have e : qd (-n) (-m) = qd n m := by
    rw [qd_div, qd_div, Rat.intCast_neg, Rat.intCast_neg]
    have h2 : (m : Rat) ≠ 0 := c_ne (by omega)
    grind
  rw [e] at h1
  have e2 : ∀ a b : Int, a.fdiv (-b) = (-a).fdiv b := fun a b => by
    rw [← Int.neg_fdiv_neg]
    rw [Int.neg_neg]
  rw [e2, e2]
  exact h1

/-! ### numbers -/
structure Cn where
  re : Rat
  im : Rat
@[reducible] def nm (z : Cn) : PyData := .tuple [fr z.re, fr z.im]
def Cs (n : Nat) (z : Cn) : Prop := Rs n z.re ∧ Rs n z.im
theorem Cs.re {n : Nat} {z : Cn} (h : Cs n z) : Rs n z.re := h.1
theorem Cs.im {n : Nat} {z : Cn} (h : Cs n z) : Rs n z.im := h.2
theorem Cs.mono {n m : Nat} {z : Cn} (h : Cs n z) (k : n ≤ m) : Cs m z := ⟨h.1.mono k, h.2.mono k⟩
namespace Cn
def add (x y : Cn) : Cn := ⟨x.re + y.re, x.im + y.im⟩
def sub (x y : Cn) : Cn := ⟨x.re - y.re, x.im - y.im⟩
def mul (x y : Cn) : Cn := ⟨x.re * y.re - x.im * y.im, x.re * y.im + x.im * y.re⟩
def conj (x : Cn) : Cn := ⟨x.re, -x.im⟩
def nsq (x : Cn) : Rat := x.re * x.re + x.im * x.im
def scale (x : Cn) (q : Rat) : Cn := ⟨x.re * q, x.im * q⟩
def div (x y : Cn) : Cn := ⟨(x.re * y.re + x.im * y.im) / y.nsq, (x.im * y.re - x.re * y.im) / y.nsq⟩
end Cn
theorem Cs.add {n m : Nat} {x y : Cn} (hx : Cs n x) (hy : Cs m y) : Cs (n + m + 1) (x.add y) := ⟨hx.1.add hy.1, hx.2.add hy.2⟩
theorem Cs.sub {n m : Nat} {x y : Cn} (hx : Cs n x) (hy : Cs m y) : Cs (n + m + 1) (x.sub y) := ⟨hx.1.sub hy.1, hx.2.sub hy.2⟩
theorem Cs.mul {n m : Nat} {x y : Cn} (hx : Cs n x) (hy : Cs m y) : Cs (n + m + (n + m) + 1) (x.mul y) := ⟨(hx.1.mul hy.1).sub (hx.2.mul hy.2), (hx.1.mul hy.2).add (hx.2.mul hy.1)⟩
theorem Cs.conj {n : Nat} {x : Cn} (hx : Cs n x) : Cs n x.conj := ⟨hx.1, hx.2.neg⟩
theorem Cs.nsq {n : Nat} {x : Cn} (hx : Cs n x) : Rs (n + n + (n + n) + 1) x.nsq := (hx.1.mul hx.1).add (hx.2.mul hx.2)
end Rim

/-! RimH: constants of the top as data; how keywords bind. -/
namespace Rim
open PySem PySem.Spec L2

mutual
/-- the value u of the written part reads as the data d -/
def kD (K : PySem.W.Frag) (u : Value) : PyData → Bool
  | .none => (match u with
    | .none => true
    | _ => false)
  | .bool b => (match u with
    | .bool c => b == c
    | _ => false)
  | .int i => (match u with
    | .int j _ => decide (i = j)
    | _ => false)
  | .str x => (match u with
    | .str y _ => decide (x = y)
    | _ => false)
  | .tuple ds => (match u with
    | .ref a => (match K.lookup a with
      | some ⟨.type c, _, .seq its _, _⟩ => decide (c = "tuple") && (decide (its.size ≤ sizeLine) && kDs K its.toList ds)
      | _ => false)
    | _ => false)
  | _ => false
def kDs (K : PySem.W.Frag) (us : List Value) : List PyData → Bool
  | [] => (match us with
    | [] => true
    | _ => false)
  | d :: ds => (match us with
    | u :: us => kD K u d && kDs K us ds
    | _ => false)
end
mutual
theorem kD_ok {K : PySem.W.Frag} : ∀ (d : PyData) (u : Value), kD K u d = true → ∃ v, RelV v u ∧ ∀ G, Dp K G v d
  | .none, u, h => by
    unfold kD at h
    cases u with
    | none => exact ⟨.non, rfl, fun G => .non⟩
    | _ => cases h
  | .bool b, u, h => by
    unfold kD at h
    cases u with
    | bool c =>
      have e : b = c := eq_of_beq h
      exact ⟨.bl b, by rw [e]; rfl, fun G => .bl b⟩
    | _ => cases h
  | .int i, u, h => by
    unfold kD at h
    cases u with
    | int j t =>
      have e : i = j := of_decide_eq_true h
      exact ⟨.int i, ⟨t, by rw [e]⟩, fun G => .int i⟩
    | _ => cases h
  | .str x, u, h => by
    unfold kD at h
    cases u with
    | str j t =>
      have e : x = j := of_decide_eq_true h
      exact ⟨.str x, ⟨t, by rw [e]⟩, fun G => .str x⟩
    | _ => cases h
  | .tuple ds, u, h => by
    unfold kD at h
    cases u with
    | ref a =>
      dsimp only at h
      cases q : K.lookup a with
      | none =>
        rw [q] at h
        cases h
      | some o =>
        obtain ⟨oc, od, dt, sl⟩ := o
        rw [q] at h
        cases oc with
        | type c =>
          cases dt with
          | seq its n =>
            obtain ⟨h1, h2⟩ := He.ba h
            obtain ⟨h3, h4⟩ := He.ba h2
            obtain ⟨vs, r, hd⟩ := kDs_ok ds its.toList h4
            refine ⟨.ref a, rfl, fun G => .tup (Or.inr ⟨_, its, n, q, ?_, rfl, of_decide_eq_true h3, r⟩) (hd G)⟩
            exact congrArg Value.type (of_decide_eq_true h1)
          | _ => cases h
        | _ => cases h
    | _ => cases h
  | .list _, u, h => by
    unfold kD at h
    cases h
  | .dict _, u, h => by
    unfold kD at h
    cases h
theorem kDs_ok {K : PySem.W.Frag} : ∀ (ds : List PyData) (us : List Value), kDs K us ds = true → ∃ vs, Vals vs us ∧ ∀ G, DpAll K G vs ds
  | [], us, h => by
    unfold kDs at h
    cases us with
    | nil => exact ⟨[], .nil, fun G => .nil⟩
    | cons _ _ => cases h
  | d :: ds, us, h => by
    unfold kDs at h
    cases us with
    | nil => cases h
    | cons u us =>
      obtain ⟨h1, h2⟩ := He.ba h
      obtain ⟨v, r, a⟩ := kD_ok d u h1
      obtain ⟨vs, rs, as⟩ := kDs_ok ds us h2
      exact ⟨v :: vs, .cons r rs, fun G => .cons (a G) (as G)⟩
end
/-- the module's name x is the data d -/
def conB (K : PySem.W.Frag) (q : Str × PyData) : Bool := match PySem.W.nsIn K mainGlobals q.1 with
  | some (some u) => kD K u q.2
  | _ => false
def impB (K : PySem.W.Frag) (q : Str × String) : Bool := He.eqO (PySem.W.nsIn K mainGlobals q.1) (some (some (.builtin q.2)))
def exB (cs : List (Str × PyData)) (is : List (Str × String)) (K : PySem.W.Frag) : Bool := cs.all (conB K) && is.all (impB K)
structure Con (K : PySem.W.Frag) (mg : Str → Option Value) (x : Str) (d : PyData) : Prop where
  ex : ∃ (v : V) (u : Value), mg x = some u ∧ RelV v u ∧ ∀ G, Dp K G v d
theorem con_ok {K : PySem.W.Frag} {h : Heap} {mg : Str → Option Value} {cs : List (Str × PyData)} {is : List (Str × String)} (X : K.In h) (G : h.Ns mainGlobals mg) (e : exB cs is K = true) (i : Nat) {q : Str × PyData} (hi : cs[i]? = some q) : Con K mg q.1 q.2 := by
  have h1 := List.all_eq_true.mp (He.ba e).1 q (List.mem_of_getElem? hi)
  unfold conB at h1
  cases z : PySem.W.nsIn K mainGlobals q.1 with
  | none =>
    rw [z] at h1
    cases h1
  | some o =>
    cases o with
    | none =>
      rw [z] at h1
      cases h1
    | some u =>
      rw [z] at h1
      obtain ⟨v, r, d⟩ := kD_ok q.2 u h1
      exact ⟨v, u, PySem.W.mg_of X G z, r, d⟩
theorem imp_ok {K : PySem.W.Frag} {h : Heap} {mg : Str → Option Value} {cs : List (Str × PyData)} {is : List (Str × String)} (X : K.In h) (G : h.Ns mainGlobals mg) (e : exB cs is K = true) (i : Nat) {q : Str × String} (hi : is[i]? = some q) : mg q.1 = some (.builtin q.2) :=
  PySem.W.mg_of X G (He.eqO_ok (List.all_eq_true.mp (He.ba e).2 q (List.mem_of_getElem? hi)))

/-! ### keywords -/
section
variable {K : PySem.W.Frag} {x qual : Str} {params : Arguments} {body : List Stmt} {scope : Scope} {dvs : List V} {f : Addr} {fd : FuncData} {ps : List Str}
/-- no defaults, all by keywords: g puts them in order -/
theorem kb_none (F : FunD K x qual params body scope [] [] f fd) (ks : List Str) (g : {α : Type} → List α → List α) (hrel : ∀ {zs : List V} {ws : List Value}, Vals zs ws → Vals (g zs) (g ws))
    (h : ∀ (kV doc pm : Value) (an : Option Addr) (cdv ct : Value) (ws : List Value), ws.length = ks.length → bindArgs (PySem.W.fnOf x qual params body scope .none kV doc pm an cdv ct) ⟨[], ks.zip ws⟩ = pure (ps.zip (g ws))) :
    KBn K fd ps 0 ks (fun _ ws => g ws) (fun _ zs => g zs) := by
  obtain ⟨oc, od, dV, kV, doc, pm, an, cdv, ct, osl, rfl, lk, hcd, hD, hK⟩ := F.ex
  rcases hD with ⟨_, rfl⟩ | ⟨e, _⟩
  · refine ⟨fun s us ws _ hu hw => ?_, fun _ r => hrel r⟩
    cases us with
    | nil => exact .of_eq (h kV doc pm an cdv ct ws hw)
    | cons _ _ => cases hu
  · exact absurd rfl e
/-- defaults, none of which is wanted -/
theorem kb_dfl (F : FunD K x qual params body scope dvs [] f fd) (hd : dvs ≠ []) (ks : List Str) (g : {α : Type} → List α → List α) (hrel : ∀ {zs : List V} {ws : List Value}, Vals zs ws → Vals (g zs) (g ws))
    (h : ∀ (T : Addr) (kV doc pm : Value) (an : Option Addr) (cdv ct : Value) (ws its : List Value), ws.length = ks.length → its.length = dvs.length →
      ∃ k, bindArgs (PySem.W.fnOf x qual params body scope (.ref T) kV doc pm an cdv ct) ⟨[], ks.zip ws⟩ = seqItems? (.ref T) >>= k ∧ k (some its.toArray) = pure (ps.zip (g ws))) :
    KBn K fd ps 0 ks (fun _ ws => g ws) (fun _ zs => g zs) := by
  obtain ⟨oc, od, dV, kV, doc, pm, an, cdv, ct, osl, rfl, lk, hcd, hD, hK⟩ := F.ex
  rcases hD with ⟨e, _⟩ | ⟨_, T, o, its, m, rfl, lT, oT, rT⟩
  · exact absurd e hd
  · refine ⟨fun s us ws X hu hw => ?_, fun _ r => hrel r⟩
    cases us with
    | nil =>
      obtain ⟨k, e1, e2⟩ := h T kV doc pm an cdv ct ws its hw rT.length.symm
      refine BindsTo.of_looks fun M => ?_
      rw [e1]
      exact looks_items X lT oT (.of_pure e2)
    | cons _ _ => cases hu
end
end Rim

/-! RimL: what the laws' own helpers want: the pail, slices, a law's last row. -/
namespace Rim
open PySem PySem.Spec L2

theorem szl_of {n : Nat} (h : Nat.ble n 1000 = true) : n ≤ sizeLine := Nat.le_trans (Nat.le_of_ble_eq_true h) (by decide)
abbrev rMulS : R2 := rI CMul fun i j => .int (i * j)

section
variable {K : PySem.W.Frag} {p : Option Addr} {E : Ev} {ta tb te : TE} {Φ : PyData → Prop} {Ψ : List PyData → Prop} {N B C : Ev → Prop} {R : PyData → Prop} {a : Addr}
theorem WR_mulS {i k : Int} (c : CMul i k) (q : Φ (.int (i * k))) : WR K p rMulS (.int i) (.int k) Φ := WR_I c rfl q

/-! ### slices -/
def cutD (ds : List PyData) (lo hi : Option Int) : List PyData := (ds.drop (HT.sIx ds.length 0 lo)).take (HT.sIx ds.length ds.length hi - HT.sIx ds.length 0 lo)
def WO (K : PySem.W.Frag) (p : Option Addr) (E : Ev) (t : TO) (Θ : Option Int → Prop) : Prop :=
  ∀ (H0 G H : Hp) (σ : L2.St), J p G H → EnvOk K p H0 G H σ E → ∀ Q : Option Int → Hp → Prop,
    (∀ o G' H', Xt p G H G' H' → J p G' H' → Θ o → Q o H') → t σ H Q
theorem WO_none {Θ : Option Int → Prop} (k : Θ none) : WO K p E tNoPart Θ := fun H0 G H σ j e Q q => q none G H Xt.refl j k
theorem WO_some {Θ : Option Int → Prop} (h : W K p E te fun d => ∃ i, d = .int i ∧ Θ (some i)) : WO K p E (tPart te) Θ := fun H0 G H σ j e Q q =>
  h H0 G H σ j e _ fun v d G' H' x j' dv hd => by
    obtain ⟨i, rfl, k⟩ := hd
    exact ⟨i, dp_int dv, q (some i) G' H' x j' k⟩
theorem WM_slL {tl th : TO} (h : W K p E te fun d => ∃ ds, d = .list ds ∧ WO K p E tl fun lo => WO K p E th fun hi => Ψ (cutD ds lo hi)) : WM K p E (tSl (rSlL K) te tl th) Ψ := by
  intro H0 G H σ j e Q q
  refine h H0 G H σ j e _ fun v d G1 H1 x1 j1 dv h1 => ?_
  obtain ⟨ds, rfl, h1⟩ := h1
  refine h1 H0 G1 H1 σ j1 (e.mono x1) _ fun lo G2 H2 x2 j2 h2 => ?_
  refine h2 H0 G2 H2 σ j2 ((e.mono x1).mono x2) _ fun hi G3 H3 x3 j3 h3 => ?_
  obtain ⟨l, xs, rfl, hs, ha⟩ := dp_lst dv
  have x13 := x1.trans (x2.trans x3)
  have g13 := x2.gg.trans x3.gg
  refine ⟨l, xs, rfl, (g13.trans j3.sub).seq hs, fun m hm => ?_⟩
  have hn : H m = none := by
    cases z : H m with
    | none => rfl
    | some o =>
      rw [x13.hh m o (j3.ne hm) z] at hm
      cases hm
  exact q m _ _ G3 _ (x13.trans (Xt.made j3 hm)) (j3.made (j3.free hm) (j3.ne hm)) hn upd_same (j3.free hm) (cut_ds lo hi (dpA_mono g13 ds xs ha)) h3
/-- t[a:b], not the whole -/
theorem W_slT {tl th : TO} (h : W K p E te fun d => ∃ ds, d = .tuple ds ∧ WO K p E tl fun lo => WO K p E th fun hi =>
    ¬ (HT.sIx ds.length 0 lo = 0 ∧ HT.sIx ds.length ds.length hi = ds.length) ∧ Φ (.tuple (cutD ds lo hi))) : W K p E (tSl (rSlT K) te tl th) Φ := by
  intro H0 G H σ j e Q q
  refine h H0 G H σ j e _ fun v d G1 H1 x1 j1 dv h1 => ?_
  obtain ⟨ds, rfl, h1⟩ := h1
  refine h1 H0 G1 H1 σ j1 (e.mono x1) _ fun lo G2 H2 x2 j2 h2 => ?_
  refine h2 H0 G2 H2 σ j2 ((e.mono x1).mono x2) _ fun hi G3 H3 x3 j3 h3 => ?_
  obtain ⟨l, xs, rfl, hs, ha⟩ := dp_tup dv
  have x13 := x1.trans (x2.trans x3)
  have g13 := x2.gg.trans x3.gg
  have hl := dpA_len ha
  refine ⟨l, xs, rfl, sqT_mono (g13.trans j3.sub) hs, ?_, fun m hm => ?_⟩
  · rw [hl]
    exact h3.1
  · have x4 := Xt.laid (p := p) j3 (o := .tup (cutV xs lo hi)) hm
    exact q _ _ _ _ (x13.trans x4) (j3.laid hm) (.tup (SqT.of upd_same) (dpA_mono x4.gg _ _ (cut_ds lo hi (dpA_mono g13 ds xs ha)))) h3.2

/-- xs + ys, xs a list of one's own, ys a new one -/
theorem WM_catV {i : Nat} {ds : List PyData} (hs : E[i]? = some (.m ds)) (h : WM K p E tb fun es => ds.length + es.length ≤ sizeLine ∧ Ψ (ds ++ es)) : WM K p E (tOp rCat (tVar i) tb) Ψ := by
  intro H0 G H σ j e Q q
  obtain ⟨l, vs, z1, z2, z3, z4, z5, z6⟩ := e.own hs
  refine ⟨_, z1, h H0 G H σ j e _ fun m us es G1 H1 x1 j1 hn hl hg dv h1 => ?_⟩
  have d3 := dpA_mono x1.gg ds vs z3
  refine ⟨l, m, vs, us, rfl, rfl, x1.hh l _ z5 z2, hl, by rw [dpA_len d3, dpA_len dv]; exact h1.1, fun n hnn => ?_⟩
  have hn0 : H n = none := by
    cases z : H n with
    | none => rfl
    | some o =>
      rw [x1.hh n o (j1.ne hnn) z] at hnn
      cases hnn
  exact q n _ _ G1 _ (x1.trans (Xt.made j1 hnn)) (j1.made (j1.free hnn) (j1.ne hnn)) hn0 upd_same (j1.free hnn) (dpA_append d3 dv) h1.2
/-- [te for x in a list], each by a function -/
theorem WM_mapL {i : Nat} {f : PyData → PyData} {tl : TE} (hi : i < E.length)
    (h : W K p E tl fun d => ∃ ds, d = .list ds ∧ ds.length ≤ sizeLine ∧ (∀ x, x ∈ ds → W K p (E.set i (.d x)) te fun y => y = f x) ∧ Ψ (ds.map f)) :
    WM K p E (tLc (iList K tl) (gName i) tYes te [i]) Ψ := by
  refine WM_lcL (h.imp fun d hd => ?_)
  obtain ⟨ds, rfl, hz, hw, hk⟩ := hd
  refine ⟨ds, rfl, hz, fun k acc => acc = (ds.take k).map f, by simp, fun k x acc hx ha => turn_name hi (WT_yes ⟨fun _ => (hw x (List.mem_of_getElem? hx)).imp fun y hy => ?_, fun z => Bool.noConfusion z⟩), fun acc ha => ?_⟩
  · show acc ++ [y] = List.map f (List.take (k + 1) ds)
    rw [show acc = List.map f (List.take k ds) from ha, hy, List.take_add_one, hx]
    simp
  · rw [ha, List.take_length]
    exact hk

/-! ### the pail -/
/-- what a place of it holds -/
def InP (i x : Int) : Prop := i = 1 → 0 ≤ x ∧ x < 2147483648
theorem W_pail {k : Nat} {i : Int} (h0 : 0 ≤ i ∧ i < 3) (ha : E[k]? = some (.v (.ref a))) (q : ∀ x, InP i x → Φ (.int x)) : W K (some a) E (tOp (rIxL K) (tVar k) (tC (.int i))) Φ := by
  intro H0 G H σ j e Q z
  obtain ⟨_, x, y, w, hp, hy⟩ := j.pl a rfl
  refine ⟨_, e.val ha, ?_⟩
  have hc : i = 0 ∨ i = 1 ∨ i = 2 := by omega
  rcases hc with rfl | rfl | rfl
  · exact ⟨a, _, 0, .int x, rfl, rfl, SqL.of hp, rfl, z _ _ G H Xt.refl j (.int x) (q x fun h => by omega)⟩
  · exact ⟨a, _, 1, .int y, rfl, rfl, SqL.of hp, rfl, z _ _ G H Xt.refl j (.int y) (q y fun _ => hy)⟩
  · exact ⟨a, _, 2, .int w, rfl, rfl, SqL.of hp, rfl, z _ _ G H Xt.refl j (.int w) (q w fun h => by omega)⟩
theorem pail_upd {G H : Hp} {us : List V} (j : J (some a) G H) (h : ∃ x y z : Int, us = [.int x, .int y, .int z] ∧ (0 ≤ y ∧ y < 2147483648)) : J (some a) G (upd H a (.lst us)) ∧ Xt (some a) G H G (upd H a (.lst us)) := by
  obtain ⟨x, y, z, rfl, hy⟩ := h
  have hg := (j.pl a rfl).1
  refine ⟨⟨fun b o e => ?_, fun b hb => ?_⟩, ⟨Same.refl G, fun b o hb e => ?_, fun b _ _ h => h⟩⟩
  · rw [upd_ne (ne_of_none e hg)]
    exact j.sub b o e
  · cases hb
    exact ⟨hg, x, y, z, upd_same, hy⟩
  · have hne : b ≠ a := fun q => hb (by rw [q])
    rw [upd_ne hne]
    exact e
theorem set_three {x y z w : Int} {i : Int} (h0 : 0 ≤ i ∧ i < 3) (hy : 0 ≤ y ∧ y < 2147483648) (hw : InP i w) : ∃ a b c : Int, ([.int x, .int y, .int z] : List V).set i.toNat (.int w) = [.int a, .int b, .int c] ∧ (0 ≤ b ∧ b < 2147483648) := by
  have hc : i = 0 ∨ i = 1 ∨ i = 2 := by omega
  rcases hc with rfl | rfl | rfl
  · exact ⟨w, y, z, rfl, hy⟩
  · exact ⟨x, w, z, rfl, hw rfl⟩
  · exact ⟨x, y, w, rfl, hy⟩
theorem ix_three {i : Int} (h0 : 0 ≤ i ∧ i < 3) : ixN 3 i = some i.toNat := by
  unfold ixN
  rw [if_pos h0.1, if_pos (by omega)]
/-- pail[i] = e -/
theorem S_pail {k : Nat} {i : Int} (h0 : 0 ≤ i ∧ i < 3) (ha : E[k]? = some (.v (.ref a))) (h : W K (some a) E te fun d => ∃ x, d = .int x ∧ InP i x ∧ N E) :
    S K (some a) E (tAsg te (gSub (tVar k) (tC (.int i)) rSetL)) N R B C := fun G0 H0 G H σ x j e D q =>
  h H0 G H σ j e _ fun v d G1 H1 x1 j1 dv h1 => by
    obtain ⟨w, rfl, hw, hn⟩ := h1
    obtain ⟨_, y1, y2, y3, hp, hy⟩ := j1.pl a rfl
    have e1 := e.mono x1
    refine ⟨_, e1.val ha, a, _, i, i.toNat, rfl, rfl, hp, ix_three h0, ?_⟩
    rw [dp_int dv]
    obtain ⟨j2, x2⟩ := pail_upd (us := ([.int y1, .int y2, .int y3] : List V).set i.toNat (.int w)) j1 (set_three h0 hy hw)
    exact q.nx σ E G1 _ ((x.trans x1).trans x2) j2 (e1.mono x2) hn
/-- pail[i], x = e -/
theorem S_pailP {k m : Nat} {i : Int} (h0 : 0 ≤ i ∧ i < 3) (ha : E[k]? = some (.v (.ref a))) (h : W K (some a) E te fun d => ∃ x y, d = .tuple [.int x, .int y] ∧ InP i x ∧ m < E.length ∧ N (E.set m (.d (.int y)))) :
    S K (some a) E (tAsg te (gTup K 2 (gCons (gSub (tVar k) (tC (.int i)) rSetL) (gCons (gName m) gNil)))) N R B C := fun G0 H0 G H σ x j e D q =>
  h H0 G H σ j e _ fun v d G1 H1 x1 j1 dv h1 => by
    obtain ⟨w, u, rfl, hw, hm, hn⟩ := h1
    obtain ⟨b, xs, rfl, hs, hxs⟩ := dp_tup dv
    cases hxs with
    | cons d1 hxs =>
      cases hxs with
      | cons d2 hxs =>
        cases hxs
        cases d1
        cases d2
        obtain ⟨_, y1, y2, y3, hp, hy⟩ := j1.pl a rfl
        have e1 := e.mono x1
        refine ⟨b, _, rfl, sqT_mono j1.sub hs, rfl, _, _, rfl, _, e1.val ha, a, _, i, i.toNat, rfl, rfl, hp, ix_three h0, ?_⟩
        obtain ⟨j2, x2⟩ := pail_upd (us := ([.int y1, .int y2, .int y3] : List V).set i.toNat (.int w)) j1 (set_three h0 hy hw)
        refine ⟨_, _, rfl, rfl, ?_⟩
        exact q.nx _ _ G1 _ ((x.trans x1).trans x2) j2 ((e1.mono x2).setD (by rw [e.len]; exact hm) (.int u)) hn

/-! ### a def that hands back a new list of its own -/
def SM (K : PySem.W.Frag) (p : Option Addr) (E : Ev) (t : TS) (RM : List PyData → Prop) : Prop :=
  ∀ (G0 H0 G H : Hp) (σ : L2.St), Xt p G0 H0 G H → J p G H → EnvOk K p H0 G H σ E → ∀ D : Ends,
    (∀ l vs ds G' H', Xt p G0 H0 G' H' → J p G' H' → H0 l = none → H' l = some (.lst vs) → G' l = none → DpAll K G' vs ds → RM ds → D.rt (.ref l) H') → t D σ H
theorem SM_seq {t u : TS} {RM : List PyData → Prop} (h : S K p E t (fun E' => SM K p E' u RM) (fun _ => False) Nev Nev) : SM K p E (tSeq t u) RM := fun G0 H0 G H σ x j e D q =>
  h G0 H0 G H σ x j e { D with nx := u D } ⟨fun σ' E' G' H' x' j' e' s => s G0 H0 G' H' σ' x' j' e' D q, fun _ _ _ _ _ _ _ z => z.elim, fun _ _ _ _ _ _ _ z => z.elim, fun _ _ _ _ _ _ _ z => z.elim⟩
theorem SM_ret {RM : List PyData → Prop} (h : WM K p E te RM) : SM K p E (tRet te) RM := fun G0 H0 G H σ x j e D q =>
  h H0 G H σ j e _ fun l vs ds G' H' x' j' hn hl hg dv hd => q l vs ds G' H' (x.trans x') j' (x.fresh j hn) hl hg dv hd
end

def spPail (K : PySem.W.Frag) : Sp := fun vs H Q _ => vs.length = 2 ∧ ∃ (G : Hp) (ns : List Int) (t : Int), J none G H ∧ DpAll K G vs [.list (ns.map .int), .int t] ∧ 0 ≤ t ∧
  ∀ l (x y z : Int) G' H', Xt none G H G' H' → J none G' H' → H l = none → G' l = none → H' l = some (.lst [.int x, .int y, .int z]) → (0 ≤ y ∧ y < 2147483648) → Q (.ref l) H'
theorem body_pail {K : PySem.W.Frag} {t : TS} {N : List Str} {vs : List V} {H : Hp} {Q : VK} {E : XK} (m : Nat) (hN : N.length = 2 + m) (hsp : spPail K vs H Q E)
    (h : ∀ (ns : List Int) (t0 : Int), 0 ≤ t0 → SM K none (ends [.list (ns.map .int), .int t0] m) t fun ds => ∃ x y z : Int, ds = [.int x, .int y, .int z] ∧ (0 ≤ y ∧ y < 2147483648)) :
    t { nx := fun _ H' => Q .non H', rt := Q } (L2.start N vs) H := by
  obtain ⟨hn, G, ns, t0, j, dv, ht, k⟩ := hsp
  refine h ns t0 ht G H G H _ Xt.refl j (env_start dv m (by rw [hn]; exact hN)) _ fun l us ds G' H' x' j' h0 hl hg da hr => ?_
  obtain ⟨x, y, z, rfl, hy⟩ := hr
  cases da with
  | cons d1 da =>
    cases da with
    | cons d2 da =>
      cases da with
      | cons d3 da =>
        cases da
        cases d1
        cases d2
        cases d3
        exact k l x y z G' H' x' j' h0 hg hl hy
/-- right(pail(script, turn)) -/
theorem W_turn {K : PySem.W.Frag} {E : Ev} {tr : TA} {X Y : XK} {Φ : PyData → Prop} {ι : Type} {args : ι → List PyData} {pre : ι → Prop} {out : ι → PyData → Prop} (i : ι) (hi : args i = []) (hp : pre i)
    (h : WA K none E tr fun ds => ∃ (ns : List Int) (t : Int), ds = [.list (ns.map .int), .int t] ∧ 0 ≤ t ∧ ∀ d, out i d → Φ d) :
    W K none E (tCall (spP K 1 args pre out) [] Y (tCons (tCall (spPail K) [] X tr) tNil)) Φ := by
  intro H0 G H σ j e Q q
  refine h H0 G H σ j e _ fun vs ds G1 H1 x1 j1 dv h1 => ?_
  obtain ⟨ns, t, rfl, ht, hk⟩ := h1
  rw [List.append_nil]
  refine ⟨dpA_len dv, G1, ns, t, j1, dv, ht, fun l x y z G2 H2 x2 j2 hn hg hl hy => ?_⟩
  have j3 : J (some l) G2 H2 := ⟨j2.sub, fun b hb => by
    cases hb
    exact ⟨hg, x, y, z, hl, hy⟩⟩
  refine ⟨rfl, l, [], G2, i, rfl, j3, by rw [hi]; exact .nil, hp, fun v d G3 H3 x3 j4 dv' hd => ?_⟩
  have hn0 : H l = none := by
    cases w : H l with
    | none => rfl
    | some o =>
      rw [x1.hh l o (by simp) w] at hn
      cases hn
  have x12 := x1.trans x2
  refine q v d G3 H3 ⟨x12.gg.trans x3.gg, fun b o _ hb => ?_, fun b _ hb hG => ?_⟩ ⟨j4.sub, fun b hb => by cases hb⟩ dv' (hk d hd)
  · have hne : some l ≠ some b := fun w => by
      cases w
      rw [hn0] at hb
      cases hb
    exact x3.hh b o hne (x12.hh b o (by simp) hb)
  · have hne : some l ≠ some b := fun w => by
      cases w
      exact hb hn0
    refine x3.fr b hne ?_ (x12.fr b (by simp) hb hG)
    cases w : H b with
    | none => exact absurd w hb
    | some o =>
      rw [x12.hh b o (by simp) w]
      exact Option.some_ne_none o
/-- the law's own promise -/
def spLaw (K : PySem.W.Frag) : Sp := fun vs H Q _ => vs.length = 1 ∧ ∃ (a : Addr) (ns : List Int), vs = [.ref a] ∧ SqL K H a (ns.map V.int) ∧ ns.length ≤ 63 ∧ ∀ H', Q (.bl true) H'
theorem dp_ints {K : PySem.W.Frag} {G : Hp} : ∀ ns : List Int, DpAll K G (ns.map V.int) (ns.map PyData.int)
  | [] => .nil
  | n :: r => .cons (.int n) (dp_ints r)
theorem body_law {K : PySem.W.Frag} {t : TS} {N : List Str} {vs : List V} {H : Hp} {Q : VK} {E : XK} (m : Nat) (hN : N.length = 1 + m) (hsp : spLaw K vs H Q E)
    (h : ∀ ns : List Int, ns.length ≤ 63 → S K none (ends [.list (ns.map .int)] m) t (fun _ => False) (fun d => d = .bool true) Nev Nev) :
    t { nx := fun _ H' => Q .non H', rt := Q } (L2.start N vs) H := by
  obtain ⟨hn, a, ns, rfl, hs, hl, k⟩ := hsp
  have j : J none H H := ⟨Same.refl H, fun b hb => by cases hb⟩
  refine h ns hl H H H H _ Xt.refl j (env_start (vs := [.ref a]) (ds := [.list (ns.map .int)]) (.cons (.lst hs (dp_ints ns)) .nil) m hN) _ ?_
  refine ⟨fun _ _ _ _ _ _ _ z => z.elim, fun v d G' H' _ _ dv z => ?_, fun _ _ _ _ _ _ _ z => z.elim, fun _ _ _ _ _ _ _ z => z.elim⟩
  subst z
  cases dv
  exact k H'
end Rim

namespace Rim
open PySem PySem.Spec L2
section
variable {K : PySem.W.Frag} {p : Option Addr} {E : Ev} {N : Ev → Prop} {R : PyData → Prop} {B C : Ev → Prop}
/-- a, b, c = e1, e2, e3 into three names -/
theorem S_par3 {i k m : Nat} {tr : TA} (hi : i < E.length) (hk : k < E.length) (hm : m < E.length) (h : WA K p E tr fun ds => ∃ a b c, ds = [a, b, c] ∧ N (((E.set i (.d a)).set k (.d b)).set m (.d c))) : S K p E (tPar3 i k m tr) N R B C := fun G0 H0 G H σ x j e D q =>
  h H0 G H σ j e _ fun vs ds G' H' x' j' dv hd => by
    obtain ⟨a, b, c, rfl, hn⟩ := hd
    cases dv with
    | cons da dv =>
      cases dv with
      | cons db dv =>
        cases dv with
        | cons dc dv =>
          cases dv
          refine ⟨_, _, _, rfl, q.nx _ _ G' H' (x.trans x') j' ((((e.mono x').setD (by rw [e.len]; exact hi) da).setD ?_ db).setD ?_ dc) hn⟩
          · rw [List.length_set, e.len]
            exact hk
          · rw [List.length_set, List.length_set, e.len]
            exact hm
end
end Rim

/-! RimO: an environment written out anew. -/
namespace Rim
open PySem PySem.Spec L2
/-- the environment by another name -/
theorem S_env {K : PySem.W.Frag} {p : Option Addr} {E E2 : Ev} {t : TS} {N B C : Ev → Prop} {R : PyData → Prop} (e : E = E2) (h : S K p E2 t N R B C) : S K p E t N R B C := e ▸ h
end Rim

/-! RimD: what a piece of a program asks, as plain functions over data; each beside the piece itself. -/
namespace Rim
open PySem PySem.Spec L2

/-! ### environments that compute -/
def geE : Ev → Nat → Sl
  | [], _ => .un
  | s :: _, 0 => s
  | _ :: E, i + 1 => geE E i
def puE : Ev → Nat → Sl → (Ev → Prop) → Prop
  | [], _, _, _ => False
  | _ :: E, 0, s, N => N (s :: E)
  | x :: E, i + 1, s, N => puE E i s fun E' => N (x :: E')
theorem geE_ok : ∀ {E : Ev} {i : Nat} {s : Sl}, geE E i = s → s ≠ .un → E[i]? = some s
  | [], _, _, h, n => absurd h.symm n
  | _ :: _, 0, _, h, _ => by rw [← h]; rfl
  | _ :: E, i + 1, s, h, n => by
    rw [List.getElem?_cons_succ]
    exact geE_ok (E := E) h n
theorem puE_ok : ∀ {E : Ev} {i : Nat} {s : Sl} {N : Ev → Prop}, puE E i s N → i < E.length ∧ N (E.set i s)
  | [], _, _, _, h => h.elim
  | _ :: _, 0, _, _, h => ⟨Nat.succ_pos _, h⟩
  | x :: E, i + 1, s, N, h => by
    have z := puE_ok (E := E) (N := fun E' => N (x :: E')) h
    exact ⟨Nat.succ_lt_succ z.1, z.2⟩

/-! ### the forms -/
abbrev WE := Ev → (PyData → Prop) → Prop
abbrev WL := Ev → (List PyData → Prop) → Prop
abbrev WB := Ev → (Bool → Prop) → Prop
abbrev WO2 := PyData → PyData → (PyData → Prop) → Prop
abbrev WF := List PyData → (PyData → Prop) → Prop
abbrev WG := PyData → Ev → (Ev → Prop) → Prop
structure Post where
  N : Ev → Prop
  R : PyData → Prop
  B : Ev → Prop
  C : Ev → Prop
abbrev WS := Ev → Post → Prop

structure DE (X : Cx) (p : Option Addr) (e : Expr) (t : TE) (f : WE) : Prop where
  py : PE X e t
  ok : ∀ E Φ, f E Φ → W X.K p E t Φ
structure DM (X : Cx) (p : Option Addr) (e : Expr) (t : TE) (f : WL) : Prop where
  py : PE X e t
  ok : ∀ E Ψ, f E Ψ → WM X.K p E t Ψ
structure DA (X : Cx) (p : Option Addr) (es : List Expr) (t : TA) (f : WL) : Prop where
  py : PA X es t
  ok : ∀ E Ψ, f E Ψ → WA X.K p E t fun xs => xs.length = es.length ∧ Ψ xs
structure DT (X : Cx) (p : Option Addr) (e : Expr) (t : TT) (f : WB) : Prop where
  py : PT X e t
  ok : ∀ E Θ, f E Θ → WT X.K p E t Θ
structure DW (X : Cx) (p : Option Addr) (e : Expr) (t : TT) (f : WB) : Prop where
  py : PW X e t
  ok : ∀ E Θ, f E Θ → WT X.K p E t Θ
structure DS (X : Cx) (p : Option Addr) (s : Stmt) (t : TS) (f : WS) : Prop where
  py : PS X s t
  ok : ∀ E (P : Post), f E P → S X.K p E t P.N P.R P.B P.C
structure DSs (X : Cx) (p : Option Addr) (s : List Stmt) (t : TS) (f : WS) : Prop where
  py : PSs X s t
  ok : ∀ E (P : Post), f E P → S X.K p E t P.N P.R P.B P.C
structure DG (X : Cx) (p : Option Addr) (tg : Expr) (g : TG) (f : WG) : Prop where
  py : PG X tg g
  ok : ∀ d E N, f d E N → TGok X.K p E g d N
structure DGs (X : Cx) (p : Option Addr) (tg : List Expr) (g : TGs) (f : List PyData → Ev → (Ev → Prop) → Prop) : Prop where
  py : PGs X tg g
  ok : ∀ d E N, f d E N → TGsok X.K p E g d N
/-- an operator (binaryOp, compareOp, a subscript) -/
structure DO (X : Cx) (P : R2 → Prop) (r : R2) (o : WO2) : Prop where
  py : P r
  ok : ∀ p x y Φ, o x y Φ → WR X.K p r x y Φ

section
variable {K : PySem.W.Frag} {p : Option Addr} {E : Ev} {t u : TE} {tt tu : TT} {ta : TA} {Φ Φ' : PyData → Prop} {Ψ Ψ' : List PyData → Prop} {Θ Θ' : Bool → Prop}
theorem WM.imp (h : WM K p E t Ψ) (k : ∀ d, Ψ d → Ψ' d) : WM K p E t Ψ' :=
  fun H0 G H σ j e Q q => h H0 G H σ j e Q fun l vs ds G' H' x j' hn hl hg dv hd => q l vs ds G' H' x j' hn hl hg dv (k ds hd)
theorem WA.imp (h : WA K p E ta Ψ) (k : ∀ d, Ψ d → Ψ' d) : WA K p E ta Ψ' :=
  fun H0 G H σ j e Q q => h H0 G H σ j e Q fun vs ds G' H' x j' dv hd => q vs ds G' H' x j' dv (k ds hd)
theorem WT.imp (h : WT K p E tt Θ) (k : ∀ d, Θ d → Θ' d) : WT K p E tt Θ' :=
  fun H0 G H σ j e Q q => h H0 G H σ j e Q fun b G' H' x j' hd => q b G' H' x j' (k b hd)
theorem WR.imp {r : R2} {x y : PyData} (h : WR K p r x y Φ) (k : ∀ d, Φ d → Φ' d) : WR K p r x y Φ' :=
  fun G H v u j dv du Q q => h G H v u j dv du Q fun w d G' H' x' j' dw hd => q w d G' H' x' j' dw (k d hd)
end

/-! ### names, constants -/
def vVar (i : Nat) : WE := fun E Φ => match geE E i with
  | .d d => Φ d
  | _ => False
def vC (d : PyData) : WE := fun _ Φ => Φ d
section
variable {X : Cx} {p : Option Addr} {e a b c : Expr} {es : List Expr} {ta tb tc : TE} {fa fb fc : WE} {tA : TA} {fA : WL} {pos : Pos}
theorem de_var {i : Nat} {x : Str} (hN : X.N[i]? = some x) (hv : Vis X.env.scope x) (hd : (x == ("__debug__" : Str)) = false := by decide) (hcd : (x == ("__classdict__" : Str)) = false := by decide) :
    DE X p (.Name x pos) (tVar i) (vVar i) := by
  refine ⟨pe_var hN hv hd hcd, fun E Φ h => ?_⟩
  unfold vVar at h
  split at h
  · rename_i d q
    exact W_var (geE_ok q Sl.noConfusion) h
  · exact h.elim
theorem de_int {i : Int} {j : Nat} : DE X p (.Constant (.int i) j pos) (tC (.int i)) (vC (.int i)) := ⟨pe_int, fun _ _ h => W_int h⟩
theorem de_bl {b : Bool} {j : Nat} : DE X p (.Constant (.bool b) j pos) (tC (.bl b)) (vC (.bool b)) := ⟨pe_bl, fun _ _ h => W_bl h⟩
theorem de_non {j : Nat} : DE X p (.Constant .none j pos) (tC .non) (vC .none) := ⟨pe_non, fun _ _ h => W_non h⟩
theorem de_str {x : Str} {j : Nat} : DE X p (.Constant (.str x) j pos) (tC (.str x)) (vC (.str x)) := ⟨pe_str, fun _ _ h => W_str h⟩
theorem de_con {x : Str} {v : V} {u : Value} {d : PyData} (hg : Gl X x) (hm : X.mg x = some u) (r : RelV v u) (hd : ∀ G, Dp X.K G v d) (hdb : (x == ("__debug__" : Str)) = false := by decide) :
    DE X p (.Name x pos) (tC v) (vC d) := ⟨pe_glob hg hm r hdb, fun _ _ h => W_con hd h⟩

/-! ### operators -/
def vOp (o : WO2) (f g : WE) : WE := fun E Φ => f E fun x => g E fun y => o x y Φ
theorem vOp_ok {K : PySem.W.Frag} {r : R2} {o : WO2} (ho : ∀ x y Φ, o x y Φ → WR K p r x y Φ) (ha : ∀ E Φ, fa E Φ → W K p E ta Φ) (hb : ∀ E Φ, fb E Φ → W K p E tb Φ) (E : Ev) (Φ : PyData → Prop)
    (h : vOp o fa fb E Φ) : W K p E (tOp r ta tb) Φ :=
  W_op ((ha E _ h).imp fun x hx => (hb E _ hx).imp fun y hy => ho x y Φ hy)
theorem de_op {op : Operator} {r : R2} {o : WO2} (ho : DO X (OpR X (binaryOp op)) r o) (ha : DE X p a ta fa) (hb : DE X p b tb fb) : DE X p (.BinOp a op b pos) (tOp r ta tb) (vOp o fa fb) :=
  ⟨pe_op ho.py ha.py hb.py, vOp_ok (ho.ok p) ha.ok hb.ok⟩
theorem de_cmp {op : CmpOp} {r : R2} {o : WO2} (ho : DO X (OpR X (compareOp op)) r o) (ha : DE X p a ta fa) (hb : DE X p b tb fb) (hm : behindInMarks op b = false) : DE X p (.Compare a [op] [b] pos) (tOp r ta tb) (vOp o fa fb) :=
  ⟨pe_cmpR ho.py ha.py hb.py hm, vOp_ok (ho.ok p) ha.ok hb.ok⟩
theorem de_ix {r : R2} {o : WO2} (ho : DO X (IxR X) r o) (ha : DE X p a ta fa) (hb : DE X p b tb fb) (hs : PlainIx b) : DE X p (.Subscript a b pos) (tOp r ta tb) (vOp o fa fb) :=
  ⟨pe_ix ho.py ha.py hb.py hs, vOp_ok (ho.ok p) ha.ok hb.ok⟩
def vTest (f : WE) : WB := fun E Θ => f E fun d => match d with
  | .bool b => Θ b
  | _ => False
theorem vTest_ok {K : PySem.W.Frag} (ha : ∀ E Φ, fa E Φ → W K p E ta Φ) (E : Ev) (Θ : Bool → Prop) (h : vTest fa E Θ) : W K p E ta fun x => ∃ b, x = .bool b ∧ Θ b :=
  (ha E _ h).imp fun x hx => by
    cases x with
    | bool b => exact ⟨b, rfl, hx⟩
    | _ => exact hx.elim
theorem dt_cmp {op : CmpOp} {r : R2} {o : WO2} (ho : DO X (OpR X (compareOp op)) r o) (ha : DE X p a ta fa) (hb : DE X p b tb fb) (hm : behindInMarks op b = false) : DT X p (.Compare a [op] [b] pos) (tTest (tOp r ta tb)) (vTest (vOp o fa fb)) :=
  ⟨pt_cmpR ho.py ha.py hb.py hm, fun E Θ h => WT_test (vTest_ok (vOp_ok (ho.ok p) ha.ok hb.ok) E Θ h)⟩

def oAdd : WO2 := fun x y Φ => match x, y with
  | .int a, .int b => Φ (.int (a + b))
  | .str a, .str b => a.length + b.length ≤ sizeLine ∧ Φ (.str (a ++ b))
  | .tuple a, .tuple b => a.length + b.length ≤ sizeLine ∧ Φ (.tuple (a ++ b))
  | .list a, .list b => a.length + b.length ≤ sizeLine ∧ Φ (.list (a ++ b))
  | _, _ => False
def oSub : WO2 := fun x y Φ => match x, y with
  | .int a, .int b => Φ (.int (a - b))
  | _, _ => False
def oMul : WO2 := fun x y Φ => match x, y with
  | .int a, .int b => (CMulX a b ∨ CMul a b) ∧ Φ (.int (a * b))
  | _, _ => False
def oDiv : WO2 := fun x y Φ => match x, y with
  | .int a, .int b => CDivX a b ∧ Φ (.int (a.fdiv b))
  | _, _ => False
def oMod : WO2 := fun x y Φ => match x, y with
  | .int a, .int b => 0 < b ∧ Φ (.int (a % b))
  | _, _ => False
def oPow : WO2 := fun x y Φ => match x, y with
  | .int a, .int b => CPow a b ∧ Φ (.int (a ^ b.toNat))
  | _, _ => False
def oLt : WO2 := fun x y Φ => match x, y with
  | .int a, .int b => Φ (.bool (decide (a < b)))
  | _, _ => False
def oLe : WO2 := fun x y Φ => match x, y with
  | .int a, .int b => Φ (.bool (decide (a ≤ b)))
  | _, _ => False
def oGt : WO2 := fun x y Φ => match x, y with
  | .int a, .int b => Φ (.bool (decide (b < a)))
  | _, _ => False
def oGe : WO2 := fun x y Φ => match x, y with
  | .int a, .int b => Φ (.bool (decide (b ≤ a)))
  | _, _ => False
def oEq : WO2 := fun x y Φ => match x, y with
  | .int a, .int b => Φ (.bool (decide (a = b)))
  | .str a, .str b => Φ (.bool (decide (a = b)))
  | x, y => SeqAt.shaped x = true ∧ SeqAt.shaped y = true ∧ Φ (.bool (PyData.eqv x y))
def oNe : WO2 := fun x y Φ => match x, y with
  | .int a, .int b => Φ (.bool (!decide (a = b)))
  | .str a, .str b => Φ (.bool (!decide (a = b)))
  | x, y => SeqAt.shaped x = true ∧ SeqAt.shaped y = true ∧ Φ (.bool (!PyData.eqv x y))
def isNone : PyData → Bool
  | .none => true
  | _ => false
def oIsN : WO2 := fun x y Φ => match y with
  | .none => Φ (.bool (isNone x))
  | .bool b => (match x with
    | .bool a => Φ (.bool (decide (a = b)))
    | _ => False)
  | _ => False
def oNotN : WO2 := fun x y Φ => match y with
  | .none => Φ (.bool (!isNone x))
  | .bool b => (match x with
    | .bool a => Φ (.bool (!decide (a = b)))
    | _ => False)
  | _ => False
def oIx : WO2 := fun x y Φ => match x, y with
  | .tuple ds, .int i => (match atI ds i with
    | some d => Φ d
    | none => False)
  | .list ds, .int i => (match atI ds i with
    | some d => Φ d
    | none => False)
  | _, _ => False
end

/-! ### what Python does of it -/
def rOr (r r' : R2) : R2 := fun x y H Q => r x y H Q ∨ r' x y H Q
section
variable {X : Cx} {f : Value → Value → Sem Value} {r r' : R2}
theorem opr_or (h : OpR X f r) (h' : OpR X f r') : OpR X f (rOr r r') := fun pins s σ H x y v u Q I rx ry q =>
  q.elim (fun q => h pins s σ H x y v u Q I rx ry q) fun q => h' pins s σ H x y v u Q I rx ry q
end
section
variable {K : PySem.W.Frag} {p : Option Addr} {r r' : R2} {x y : PyData} {Φ : PyData → Prop}
theorem WR.inl (h : WR K p r x y Φ) : WR K p (rOr r r') x y Φ := fun G H v u j dv du Q q => Or.inl (h G H v u j dv du Q q)
theorem WR.inr (h : WR K p r' x y Φ) : WR K p (rOr r r') x y Φ := fun G H v u j dv du Q q => Or.inr (h G H v u j dv du Q q)
/-- lists of any standing -/
def rCatS (K : PySem.W.Frag) : R2 := fun x y H Q => ∃ l b xs ys, x = .ref l ∧ y = .ref b ∧ SqL K H l xs ∧ SqL K H b ys ∧ (xs.length ≤ sizeLine → ys.length ≤ sizeLine → xs.length + ys.length ≤ sizeLine) ∧
  ∀ q, H q = none → Q (.ref q) (upd H q (.lst (xs ++ ys)))
theorem op_catS {X : Cx} : OpR X (binaryOp .Add) (rCatS X.K) := by
  intro pins s σ H x y v u Q I rx ry h
  obtain ⟨l, b, xs, ys, rfl, rfl, h1, h2, hz0, q⟩ := h
  cases rx
  cases ry
  obtain ⟨its, r1, ⟨o, n, e1, c1, d1, s1⟩, z1⟩ := I.list h1
  obtain ⟨its2, r2, ⟨o2, n2, e2, c2, d2, s2⟩, z2⟩ := I.list h2
  have hz := hz0 z1 z2
  obtain ⟨oc, od, oa, os⟩ := o
  obtain ⟨oc2, od2, oa2, os2⟩ := o2
  cases c1
  cases d1
  cases s1
  cases c2
  cases d2
  cases s2
  have ea : its.toArray ++ its2.toArray = (its ++ its2).toArray := by simp
  have hz3 : its.toArray.size + its2.toArray.size ≤ sizeLine := by
    rw [List.size_toArray, List.size_toArray, ← r1.length, ← r2.length]
    exact hz
  refine concat_meets ⟨_, e1, rfl⟩ ⟨_, e2, rfl⟩ PySem.noFill_list_add PySem.seq_list_add PySem.F.slot_list_add PySem.F.entry_list_add (PySem.F.args_list_add_2 _ _) (PyProof.Rows.list_addW l b its.toArray its2.toArray n n2 none none os os2 hz3) ⟨e1, e2, ?_⟩
  rw [ea]
  exact ⟨.ref _, _, I.lnew (t' := s.toks) (r1.append r2) (by rw [List.length_append]; exact hz), rfl, q _ I.fresh⟩
theorem WR_catS {a b : List PyData} (hz : a.length + b.length ≤ sizeLine) (q : Φ (.list (a ++ b))) : WR K p (rCatS K) (.list a) (.list b) Φ := by
  intro G H v u j dv du Q z
  obtain ⟨l, xs, rfl, h1, d1⟩ := dp_lst dv
  obtain ⟨m, ys, rfl, h2, d2⟩ := dp_lst du
  refine ⟨l, m, xs, ys, rfl, rfl, j.sub.seq h1, j.sub.seq h2, fun _ _ => by rw [dpA_len d1, dpA_len d2]; exact hz, fun n hn => ?_⟩
  have x2 := Xt.laid (p := p) j (o := .lst (xs ++ ys)) hn
  exact z _ _ _ _ x2 (j.laid hn) (.lst (SqL.of upd_same) (dpA_append (dpA_mono x2.gg a xs d1) (dpA_mono x2.gg b ys d2))) q
theorem WR_catA {a b : List PyData} (hz : a.length + b.length ≤ sizeLine) (q : Φ (.tuple (a ++ b))) : WR K p (rCatA K) (.tuple a) (.tuple b) Φ := by
  intro G H v u j dv du Q z
  obtain ⟨l, xs, rfl, h1, d1⟩ := dp_tup dv
  obtain ⟨m, ys, rfl, h2, d2⟩ := dp_tup du
  have n1 : xs = [] → a = [] := fun e => List.eq_nil_of_length_eq_zero (by rw [← dpA_len d1, e]; rfl)
  have n2 : ys = [] → b = [] := fun e => List.eq_nil_of_length_eq_zero (by rw [← dpA_len d2, e]; rfl)
  refine ⟨l, m, xs, ys, rfl, rfl, sqT_mono j.sub h1, sqT_mono j.sub h2, by rw [dpA_len d1, dpA_len d2]; exact hz, fun e => ?_, fun _ e => ?_, fun _ _ n hn => ?_⟩
  · rw [n1 e] at q
    exact z _ (.tuple b) G H Xt.refl j (.tup h2 d2) q
  · rw [n2 e, List.append_nil] at q
    exact z _ (.tuple a) G H Xt.refl j (.tup h1 d1) q
  · have x2 := Xt.laid (p := p) j (o := .tup (xs ++ ys)) hn
    exact z _ _ _ _ x2 (j.laid hn) (.tup (SqT.of upd_same) (dpA_append (dpA_mono x2.gg a xs d1) (dpA_mono x2.gg b ys d2))) q
def rAddS : R2 := fun x y H Q => ∃ i j, x = .str i ∧ y = .str j ∧ i.length + j.length ≤ sizeLine ∧ Q (.str (i ++ j)) H
theorem WR_addS {a b : Str} (hz : a.length + b.length ≤ sizeLine) (q : Φ (.str (a ++ b))) : WR K p rAddS (.str a) (.str b) Φ := by
  intro G H v u j dv du Q z
  exact ⟨a, b, dp_str dv, dp_str du, hz, z _ (.str _) G H Xt.refl j (.str _) q⟩
theorem WR_mulS2 {i k : Int} (c : CMul i k) (q : Φ (.int (i * k))) : WR K p rMulS (.int i) (.int k) Φ := WR_I c rfl q
def rIsN0 : R2 := fun x y H Q => y = .non ∧ Q (.bl (decide (x = .non))) H
def rNotN0 : R2 := fun x y H Q => y = .non ∧ Q (.bl (!decide (x = .non))) H
theorem isn_dp {G : Hp} {v : V} (h : Dp K G v x) : decide (v = V.non) = isNone x := by
  cases h with
  | non => rfl
  | _ => exact decide_eq_false (by intro z; cases z)
theorem WR_isN (q : Φ (.bool (isNone x))) : WR K p rIsN0 x .none Φ := by
  intro G H v u j dv du Q z
  cases du
  refine ⟨rfl, ?_⟩
  rw [isn_dp dv]
  exact z _ _ G H Xt.refl j (.bl _) q
theorem WR_isB {a b : Bool} (q : Φ (.bool (decide (a = b)))) : WR K p rIsB (.bool a) (.bool b) Φ := by
  intro G H v u j dv du Q z
  exact ⟨a, b, dp_bl dv, dp_bl du, z _ _ G H Xt.refl j (.bl _) q⟩
theorem WR_notB {a b : Bool} (q : Φ (.bool (!decide (a = b)))) : WR K p rNotB (.bool a) (.bool b) Φ := by
  intro G H v u j dv du Q z
  exact ⟨a, b, dp_bl dv, dp_bl du, z _ _ G H Xt.refl j (.bl _) q⟩
theorem WR_notN (q : Φ (.bool (!isNone x))) : WR K p rNotN0 x .none Φ := by
  intro G H v u j dv du Q z
  cases du
  refine ⟨rfl, ?_⟩
  rw [isn_dp dv]
  exact z _ _ G H Xt.refl j (.bl _) q
end
section
variable {X : Cx}
theorem do_add : DO X (OpR X (binaryOp .Add)) (rOr rAdd (rOr rAddS (rOr (rCatA X.K) (rCatS X.K)))) oAdd := by
  refine ⟨opr_or op_add (opr_or op_add_str (opr_or op_catA op_catS)), fun p x y Φ h => ?_⟩
  cases x <;> cases y <;> first
    | exact h.elim
    | exact (WR_add h).inl
    | exact (WR_addS h.1 h.2).inl.inr
    | exact (WR_catA h.1 h.2).inl.inr.inr
    | exact (WR_catS h.1 h.2).inr.inr.inr
theorem do_sub : DO X (OpR X (binaryOp .Sub)) rSub oSub := by
  refine ⟨op_sub, fun p x y Φ h => ?_⟩
  cases x <;> cases y <;> first
    | exact h.elim
    | exact WR_sub h
theorem do_mul : DO X (OpR X (binaryOp .Mult)) (rOr rMul rMulS) oMul := by
  refine ⟨opr_or op_mulX op_mul, fun p x y Φ h => ?_⟩
  cases x <;> cases y <;> first
    | exact h.elim
    | exact h.1.elim (fun c => (WR_mul c h.2).inl) fun c => (WR_mulS2 c h.2).inr
theorem do_div : DO X (OpR X (binaryOp .FloorDiv)) rDiv oDiv := by
  refine ⟨op_fdivX, fun p x y Φ h => ?_⟩
  cases x <;> cases y <;> first
    | exact h.elim
    | exact WR_div h.1 h.2
theorem do_mod : DO X (OpR X (binaryOp .Mod)) rMod oMod := by
  refine ⟨op_mod, fun p x y Φ h => ?_⟩
  cases x <;> cases y <;> first
    | exact h.elim
    | exact WR_mod h.1 h.2
theorem do_pow : DO X (OpR X (binaryOp .Pow)) rPow oPow := by
  refine ⟨op_pow, fun p x y Φ h => ?_⟩
  cases x <;> cases y <;> first
    | exact h.elim
    | exact WR_pow h.1 h.2
theorem do_lt : DO X (OpR X (compareOp .Lt)) rLt oLt := by
  refine ⟨op_lt, fun p x y Φ h => ?_⟩
  cases x <;> cases y <;> first
    | exact h.elim
    | exact WR_lt h
theorem do_le : DO X (OpR X (compareOp .LtE)) rLe oLe := by
  refine ⟨op_le, fun p x y Φ h => ?_⟩
  cases x <;> cases y <;> first
    | exact h.elim
    | exact WR_le h
theorem do_gt : DO X (OpR X (compareOp .Gt)) rGt oGt := by
  refine ⟨op_gt, fun p x y Φ h => ?_⟩
  cases x <;> cases y <;> first
    | exact h.elim
    | exact WR_gt h
theorem do_ge : DO X (OpR X (compareOp .GtE)) rGe oGe := by
  refine ⟨op_ge, fun p x y Φ h => ?_⟩
  cases x <;> cases y <;> first
    | exact h.elim
    | exact WR_ge h
theorem do_eq (hu : X.A.units + 64 < cLine) : DO X (OpR X (compareOp .Eq)) (rOr rEq (rEqD X.K)) oEq := by
  refine ⟨opr_or op_eq (op_eqD hu), fun p x y Φ h => ?_⟩
  cases x <;> cases y <;> first
    | exact (WR_eqI h).inl
    | exact (WR_eqS h).inl
    | exact (WR_eqD h.1 h.2.1 h.2.2).inr
theorem do_ne (hu : X.A.units + 64 < cLine) : DO X (OpR X (compareOp .NotEq)) (rOr rNe (rNeD X.K)) oNe := by
  refine ⟨opr_or op_ne (op_neD hu), fun p x y Φ h => ?_⟩
  cases x <;> cases y <;> first
    | exact (WR_neI h).inl
    | exact (WR_neS h).inl
    | exact (WR_neD h.1 h.2.1 h.2.2).inr
theorem do_isN : DO X (OpR X (compareOp .Is)) (rOr rIsN0 rIsB) oIsN := by
  refine ⟨opr_or op_isN op_isBl, fun p x y Φ h => ?_⟩
  cases y <;> first
    | exact h.elim
    | exact (WR_isN h).inl
    | (cases x <;> first
      | exact h.elim
      | exact (WR_isB h).inr)
theorem do_notN : DO X (OpR X (compareOp .IsNot)) (rOr rNotN0 rNotB) oNotN := by
  refine ⟨opr_or op_notN op_notBl, fun p x y Φ h => ?_⟩
  cases y <;> first
    | exact h.elim
    | exact (WR_notN h).inl
    | (cases x <;> first
      | exact h.elim
      | exact (WR_notB h).inr)
def rIx2 (K : PySem.W.Frag) : R2 := rOr (rIxT K) (rIxL K)
theorem ix_or {r r' : R2} (h : IxR X r) (h' : IxR X r') : IxR X (rOr r r') := fun a b pins s σ H x y v u Q I rx ry q =>
  q.elim (fun q => h a b pins s σ H x y v u Q I rx ry q) fun q => h' a b pins s σ H x y v u Q I rx ry q
theorem do_ix : DO X (IxR X) (rIx2 X.K) oIx := by
  refine ⟨ix_or ix_tup ix_list, fun p x y Φ h => ?_⟩
  cases x with
  | tuple ds =>
    cases y with
    | int i =>
      have h2 : (match atI ds i with
        | some d => Φ d
        | none => False) := h
      split at h2 <;> rename_i z
      · exact (WR_ixT z h2).inl
      · exact h2.elim
    | _ => exact h.elim
  | list ds =>
    cases y with
    | int i =>
      have h2 : (match atI ds i with
        | some d => Φ d
        | none => False) := h
      split at h2 <;> rename_i z
      · exact (WR_ixL z h2).inr
      · exact h2.elim
    | _ => exact h.elim
  | _ => exact h.elim
end
end Rim

/-! RimE: arguments, displays, tests, calls, built-ins, slices. -/
namespace Rim
open PySem PySem.Spec L2

def ifB (k : Bool) (a b : Prop) : Prop := match k with
  | true => a
  | false => b
theorem ifB_t {a b : Prop} : ifB true a b = a := rfl
theorem ifB_f {a b : Prop} : ifB false a b = b := rfl
theorem ifB_in {k : Bool} {a b : Prop} (ht : k = true → a) (hf : k = false → b) : ifB k a b := by
  cases k
  · exact hf rfl
  · exact ht rfl
theorem ifB_to {k : Bool} {a b : Prop} (h : ifB k a b) : (k = true → a) ∧ (k = false → b) := by
  cases k
  · exact ⟨fun z => Bool.noConfusion z, fun _ => h⟩
  · exact ⟨fun _ => h, fun z => Bool.noConfusion z⟩

section
variable {X : Cx} {p : Option Addr} {e a b c : Expr} {es : List Expr} {te ta tb tc : TE} {fe fa fb fc : WE} {tA : TA} {fA : WL} {pos : Pos} {tt tu : TT} {ft fu : WB} {gM : WL}

/-! ### own lists as data -/
def vOf (f : WL) : WE := fun E Φ => f E fun ds => Φ (.list ds)
theorem de_of (h : DM X p e te gM) : DE X p e te (vOf gM) := ⟨h.py, fun E Φ q => W_of_WM (h.ok E _ q)⟩

/-! ### arguments -/
def vNil : WL := fun _ Ψ => Ψ []
def vCons (f : WE) (g : WL) : WL := fun E Ψ => f E fun x => g E fun xs => Ψ (x :: xs)
theorem da_nil : DA X p [] tNil vNil := ⟨pa_nil, fun _ _ h => WA_nil ⟨rfl, h⟩⟩
theorem da_cons (he : DE X p e te fe) (hr : DA X p es tA fA) (hs : starEach (e :: es) X.env = (false, eval e X.env) :: starEach es X.env := by rfl) : DA X p (e :: es) (tCons te tA) (vCons fe fA) :=
  ⟨pa_cons he.py hr.py hs, fun E Ψ h => WA_cons ((he.ok E _ h).imp fun x hx => (hr.ok E _ hx).imp fun xs hxs => ⟨by rw [List.length_cons, List.length_cons, hxs.1], hxs.2⟩)⟩
def vTup (f : WL) : WE := fun E Φ => f E fun xs => Φ (.tuple xs)
theorem de_tup {k : Nat} (h : DA X p es tA fA) (hz : Nat.ble es.length 1000 = true := by rfl) : DE X p (.Tuple es k pos) (tTup tA) (vTup fA) :=
  ⟨pe_tup h.py, fun E Φ q => W_tup ((h.ok E _ q).imp fun xs hx => ⟨by rw [hx.1]; exact szl_of hz, hx.2⟩)⟩
theorem dm_lst (h : DA X p es tA fA) (hz : Nat.ble es.length 1000 = true := by rfl) : DM X p (.List es pos) (tLst tA) fA :=
  ⟨pe_lst h.py, fun E Ψ q => WM_lst ((h.ok E _ q).imp fun xs hx => ⟨by rw [hx.1]; exact szl_of hz, hx.2⟩)⟩

/-! ### tests -/
theorem dt_val (h : DE X p e te fe) (he : ∀ whole, isTrue e X.env whole = (do let v ← whole; standAt e.pos; holding [v] (truthy v)) := by intro _; rfl) : DT X p e (tB te) (vTest fe) :=
  ⟨pt_val h.py he, fun E Θ q => WT_B (vTest_ok h.ok E Θ q)⟩
/-- any value's truth -/
def truD (d : PyData) (Θ : Bool → Prop) : Prop := match d with
  | .none => Θ false
  | .bool b => Θ b
  | .int i => Θ (i != 0)
  | .list ds => Θ (!ds.isEmpty)
  | .tuple ds => Θ (!ds.isEmpty)
  | _ => False
def vTru (f : WE) : WB := fun E Θ => f E fun d => truD d Θ
theorem isEmpty_len {α β : Type} {xs : List α} {ys : List β} (h : xs.length = ys.length) : xs.isEmpty = ys.isEmpty := by
  cases xs <;> cases ys <;> simp_all
theorem tru_dp {K : PySem.W.Frag} {G H : Hp} {v : V} {d : PyData} {Θ : Bool → Prop} (s : Same G H) (dv : Dp K G v d) (h : truD d Θ) : ∃ k, TruV K v H k ∧ Θ k := by
  cases d with
  | none => cases dv; exact ⟨false, rfl, h⟩
  | bool b => cases dv; exact ⟨b, rfl, h⟩
  | int i => cases dv; exact ⟨_, rfl, h⟩
  | list ds =>
    obtain ⟨l, xs, rfl, hs, ha⟩ := dp_lst dv
    refine ⟨_, Or.inl ⟨xs, s.seq hs, rfl⟩, ?_⟩
    rw [isEmpty_len (dpA_len ha)]
    exact h
  | tuple ds =>
    obtain ⟨l, xs, rfl, hs, ha⟩ := dp_tup dv
    refine ⟨_, Or.inr (Or.inl ⟨xs, sqT_mono s hs, rfl⟩), ?_⟩
    rw [isEmpty_len (dpA_len ha)]
    exact h
  | _ => exact h.elim
def tTru (K : PySem.W.Frag) (t : TE) : TT := fun σ H Q => t σ H fun x H' => ∃ k, TruV K x H' k ∧ Q k H'
theorem WT_tru {K : PySem.W.Frag} {E : Ev} {Θ : Bool → Prop} (h : W K p E te fun d => truD d Θ) : WT K p E (tTru K te) Θ := by
  intro H0 G H σ j e Q q
  refine h H0 G H σ j e _ fun v d G1 H1 x1 j1 dv h1 => ?_
  obtain ⟨k, hk, ht⟩ := tru_dp j1.sub dv h1
  exact ⟨k, hk, q k G1 H1 x1 j1 ht⟩
theorem dt_tru (h : DE X p e te fe) (he : ∀ whole, isTrue e X.env whole = (do let v ← whole; standAt e.pos; holding [v] (truthy v)) := by intro _; rfl) : DT X p e (tTru X.K te) (vTru fe) :=
  ⟨pt_truth h.py he, fun E Θ q => WT_tru (h.ok E _ q)⟩
/-- the truth of a list of one's own -/
def vTruV (i : Nat) : WB := fun E Θ => match geE E i with
  | .m ds => Θ (!ds.isEmpty)
  | .d d => vTru (vC d) E Θ
  | _ => False
theorem dt_truV {i : Nat} {x : Str} (hN : X.N[i]? = some x) (hv : Vis X.env.scope x) (hd : (x == ("__debug__" : Str)) = false := by decide) (hcd : (x == ("__classdict__" : Str)) = false := by decide)
    (he : ∀ whole, isTrue (.Name x pos) X.env whole = (do let v ← whole; standAt (Expr.Name x pos).pos; holding [v] (truthy v)) := by intro _; rfl) : DT X p (.Name x pos) (tTru X.K (tVar i)) (vTruV i) := by
  refine ⟨pt_truth (pe_var hN hv hd hcd) he, fun E Θ h => ?_⟩
  unfold vTruV at h
  split at h
  · rename_i ds q
    intro H0 G H σ j e Q z
    obtain ⟨l, vs, h1, h2, h3, _⟩ := e.own (geE_ok q Sl.noConfusion)
    refine ⟨_, h1, !ds.isEmpty, Or.inl ⟨vs, SqL.of h2, ?_⟩, z _ G H Xt.refl j h⟩
    rw [isEmpty_len (dpA_len h3)]
  · rename_i d q
    exact WT_tru (W_var (geE_ok q Sl.noConfusion) h)
  · exact h.elim
def vNot (f : WB) : WB := fun E Θ => f E fun b => Θ (!b)
theorem dt_not (h : DT X p e tt ft) : DT X p (.UnaryOp .Not e pos) (tNot tt) (vNot ft) := ⟨pt_not h.py, fun E Θ q => WT_not (h.ok E _ q)⟩
def vAnd (f g : WB) : WB := fun E Θ => f E fun b => ifB b (g E Θ) (Θ false)
def vOr (f g : WB) : WB := fun E Θ => f E fun b => ifB b (Θ true) (g E Θ)
theorem dw_and1 (h : DT X p a tt ft) : DW X p (.BoolOp .And [a] pos) tt ft := ⟨pw_and1 h.py, h.ok⟩
theorem dw_or1 (h : DT X p a tt ft) : DW X p (.BoolOp .Or [a] pos) tt ft := ⟨pw_or1 h.py, h.ok⟩
theorem dw_and {rest : List Expr} (h : DT X p a tt ft) (k : DW X p (.BoolOp .And (b :: rest) pos) tu fu) : DW X p (.BoolOp .And (a :: b :: rest) pos) (tAnd tt tu) (vAnd ft fu) :=
  ⟨pw_and h.py k.py, fun E Θ q => WT_and ((h.ok E _ q).imp fun x hx => ⟨fun z => k.ok E Θ ((ifB_to hx).1 z), (ifB_to hx).2⟩)⟩
theorem dw_or {rest : List Expr} (h : DT X p a tt ft) (k : DW X p (.BoolOp .Or (b :: rest) pos) tu fu) : DW X p (.BoolOp .Or (a :: b :: rest) pos) (tOr tt tu) (vOr ft fu) :=
  ⟨pw_or h.py k.py, fun E Θ q => WT_or ((h.ok E _ q).imp fun x hx => ⟨(ifB_to hx).1, fun z => k.ok E Θ ((ifB_to hx).2 z)⟩)⟩
theorem dt_w (h : DW X p e tt ft) : DT X p e tt ft := ⟨h.py.pt, h.ok⟩

/-! ### values of tests -/
def booD (d : PyData) (Θ : Bool → Prop) : Prop := match d with
  | .bool b => Θ b
  | _ => False
def vNotV (f : WE) : WE := fun E Φ => f E fun d => booD d fun b => Φ (.bool (!b))
def vAndV (f g : WE) : WE := fun E Φ => f E fun d => booD d fun b => ifB b (g E Φ) (Φ (.bool false))
def vOrV (f g : WE) : WE := fun E Φ => f E fun d => booD d fun b => ifB b (Φ (.bool true)) (g E Φ)
theorem bool_of {Θ : Bool → Prop} {d : PyData} (h : booD d Θ) : ∃ b, d = .bool b ∧ Θ b := by
  cases d with
  | bool b => exact ⟨b, rfl, h⟩
  | _ => exact h.elim
theorem de_not (h : DE X p a ta fa) : DE X p (.UnaryOp .Not a pos) (tNotV ta) (vNotV fa) := ⟨pe_not h.py, fun E Φ q => W_notV ((h.ok E _ q).imp fun x hx => bool_of (Θ := fun b => Φ (.bool (!b))) hx)⟩
theorem de_one {op : BoolOp} (h : DE X p a ta fa) : DE X p (.BoolOp op [a] pos) ta fa := ⟨pe_one h.py, h.ok⟩
theorem de_and {rest : List Expr} (h : DE X p a ta fa) (k : DE X p (.BoolOp .And (b :: rest) pos) tb fb) : DE X p (.BoolOp .And (a :: b :: rest) pos) (tAndV ta tb) (vAndV fa fb) :=
  ⟨pe_and h.py k.py, fun E Φ q => W_andV ((h.ok E _ q).imp fun x hx => by
    obtain ⟨c, rfl, hc⟩ := bool_of (Θ := fun c => ifB c (fb E Φ) (Φ (.bool false))) hx
    exact ⟨c, rfl, fun z => k.ok E Φ ((ifB_to hc).1 z), (ifB_to hc).2⟩)⟩
theorem de_or {rest : List Expr} (h : DE X p a ta fa) (k : DE X p (.BoolOp .Or (b :: rest) pos) tb fb) : DE X p (.BoolOp .Or (a :: b :: rest) pos) (tOrV ta tb) (vOrV fa fb) :=
  ⟨pe_or h.py k.py, fun E Φ q => W_orV ((h.ok E _ q).imp fun x hx => by
    obtain ⟨c, rfl, hc⟩ := bool_of (Θ := fun c => ifB c (Φ (.bool true)) (fb E Φ)) hx
    exact ⟨c, rfl, (ifB_to hc).1, fun z => k.ok E Φ ((ifB_to hc).2 z)⟩)⟩
def vIf (f : WB) (g h : WE) : WE := fun E Φ => f E fun b => ifB b (g E Φ) (h E Φ)
theorem de_if (hc : DT X p c tt ft) (ha : DE X p a ta fa) (hb : DE X p b tb fb) : DE X p (.IfExp c a b pos) (tIf tt ta tb) (vIf ft fa fb) :=
  ⟨pe_ifExp hc.py ha.py hb.py, fun E Φ q => W_if ((hc.ok E _ q).imp fun x hx => ⟨fun z => ha.ok E Φ ((ifB_to hx).1 z), fun z => hb.ok E Φ ((ifB_to hx).2 z)⟩)⟩
def vNeg (f : WE) : WE := fun E Φ => f E fun d => match d with
  | .int i => Φ (.int (-i))
  | _ => False
theorem de_neg (h : DE X p a ta fa) : DE X p (.UnaryOp .USub a pos) (tUn (rU fun i => .int (-i)) ta) (vNeg fa) :=
  ⟨pe_un un_neg h.py, fun E Φ q => W_neg ((h.ok E _ q).imp fun x hx => by
    cases x with
    | int i => exact ⟨i, rfl, hx⟩
    | _ => exact hx.elim)⟩

/-! ### a place in a list of one's own -/
def vIxV (i : Nat) (f : WE) : WE := fun E Φ => match geE E i with
  | .d d => f E fun y => oIx d y Φ
  | .m ds => f E fun y => oIx (.list ds) y Φ
  | _ => False
theorem W_inr {K : PySem.W.Frag} {E : Ev} {Φ : PyData → Prop} {r r' : R2} (h : W K p E (tOp r' ta tb) Φ) (m : ∀ (σ : L2.St) (H : Hp) (Q Q' : VK), (∀ v H, Q v H → Q' v H) → ta σ H Q → ta σ H Q')
    (n : ∀ (σ : L2.St) (H : Hp) (Q Q' : VK), (∀ v H, Q v H → Q' v H) → tb σ H Q → tb σ H Q') : W K p E (tOp (rOr r r') ta tb) Φ := fun H0 G H σ j e Q q =>
  m σ H _ _ (fun v H1 h1 => n σ H1 _ _ (fun u H2 h2 => Or.inr h2) h1) (h H0 G H σ j e Q q)
theorem W_ixV {K : PySem.W.Frag} {E : Ev} {Φ : PyData → Prop} {i : Nat} {ds : List PyData} (hs : E[i]? = some (.m ds)) (h : W K p E tb fun y => oIx (.list ds) y Φ) : W K p E (tOp (rIx2 K) (tVar i) tb) Φ := by
  intro H0 G H σ j e Q q
  obtain ⟨l, vs, z1, z2, z3, z4, z5, z6⟩ := e.own hs
  refine ⟨_, z1, h H0 G H σ j e _ fun u y G1 H1 x1 j1 du h1 => ?_⟩
  cases y with
  | int k =>
    have h2 : (match atI ds k with
      | some d => Φ d
      | none => False) := h1
    split at h2 <;> rename_i w
    · obtain ⟨v, hv, dv⟩ := at_of_ds (dpA_mono x1.gg ds vs z3) w
      exact Or.inr ⟨l, vs, k, v, rfl, dp_int du, SqL.of (x1.hh l _ z5 z2), hv, q v _ G1 H1 x1 j1 dv h2⟩
    · exact h2.elim
  | _ => exact h1.elim
theorem de_ixV {i : Nat} {x : Str} {p1 : Pos} (hN : X.N[i]? = some x) (hv : Vis X.env.scope x) (hb : DE X p b tb fb) (hs : PlainIx b) (hd : (x == ("__debug__" : Str)) = false := by decide) (hcd : (x == ("__classdict__" : Str)) = false := by decide) :
    DE X p (.Subscript (.Name x p1) b pos) (tOp (rIx2 X.K) (tVar i) tb) (vIxV i fb) := by
  refine ⟨pe_ix do_ix.py (pe_var hN hv hd hcd) hb.py hs, fun E Φ h => ?_⟩
  unfold vIxV at h
  split at h
  · rename_i d q
    exact W_op (W_var (geE_ok q Sl.noConfusion) ((hb.ok E _ h).imp fun y hy => do_ix.ok p d y Φ hy))
  · rename_i ds q
    exact W_ixV (geE_ok q Sl.noConfusion) (hb.ok E _ h)
  · exact h.elim
end
end Rim

/-! RimF: a list of one's own looked at; calls; built-ins; slices. -/
namespace Rim
open PySem PySem.Spec L2

/-! ### a list of one's own, looked at while nothing keeps it -/
def flD : PyData → Bool
  | .none | .bool _ | .int _ | .str _ => true
  | _ => false
section
variable {K : PySem.W.Frag} {p : Option Addr} {H0 G H : Hp} {σ : L2.St} {E : Ev}
theorem flat_dp {G G' : Hp} {v : V} {d : PyData} (h : flD d = true) (k : Dp K G' v d) : Dp K G v d := by
  cases k with
  | non => exact .non
  | bl b => exact .bl b
  | int i => exact .int i
  | str x => exact .str x
  | _ => cases h
def moE : Ev → Nat → List PyData → Ev
  | [], _, _ => []
  | _ :: E, 0, ds => .d (.list ds) :: E
  | x :: E, i + 1, ds => x :: moE E i ds
theorem moE_eq : ∀ {E : Ev} {i : Nat} {ds : List PyData}, moE E i ds = E.set i (.d (.list ds))
  | [], _, _ => rfl
  | _ :: _, 0, _ => rfl
  | x :: E, i + 1, ds => congrArg (x :: ·) (moE_eq (E := E))
theorem EnvOk.view (e : EnvOk K p H0 G H σ E) {i : Nat} {ds : List PyData} (hs : E[i]? = some (.m ds)) {l : Addr} {vs : List V} (h1 : σ[i]? = some (some (.ref l))) (h2 : H l = some (.lst vs)) (h3 : DpAll K G vs ds)
    (h4 : G l = none) : EnvOk K p H0 (upd G l (.lst vs)) H σ (E.set i (.d (.list ds))) := by
  have e1 : Same G (upd G l (.lst vs)) := fun a o z => by
    rw [upd_ne (ne_of_none z h4)]
    exact z
  have hE : i < E.length := (List.getElem?_eq_some_iff.mp hs).1
  refine ⟨by rw [List.length_set]; exact e.len, fun k s hk => ?_, fun a b ds' es m hab ha hb z1 => ?_⟩
  · rw [get_set hE] at hk
    by_cases w : k = i
    · rw [if_pos w] at hk
      cases hk
      exact ⟨.ref l, by rw [w]; exact h1, .lst (SqL.of upd_same) (dpA_mono e1 ds vs h3)⟩
    · rw [if_neg w] at hk
      have z := e.at_ k s hk
      cases s with
      | un => trivial
      | v v => exact z
      | d d =>
        obtain ⟨v, z1, z2⟩ := z
        exact ⟨v, z1, dp_mono e1 d v z2⟩
      | m es =>
        obtain ⟨m, us, z1, z2, z3, z4, z5⟩ := z
        have hne : m ≠ l := fun y => e.ap i k ds es l (Ne.symm w) hs hk h1 (by rw [← y]; exact z1)
        exact ⟨m, us, z1, z2, dpA_mono e1 es us z3, by rw [upd_ne hne]; exact z4, z5⟩
  · rw [get_set hE] at ha hb
    by_cases qa : a = i
    · rw [if_pos qa] at ha
      cases ha
    · by_cases qb : b = i
      · rw [if_pos qb] at hb
        cases hb
      · rw [if_neg qa] at ha
        rw [if_neg qb] at hb
        exact e.ap a b ds' es m hab ha hb z1
end
section
variable {X : Cx} {p : Option Addr} {e a b c : Expr} {es : List Expr} {te ta tb tc : TE} {fe fa fb fc : WE} {tA : TA} {fA : WL} {pos : Pos} {tt tu : TT} {ft fu : WB} {gM : WL}
/-- e with the list at i looked at: what comes is flat -/
def vView (i : Nat) (f : WE) : WE := fun E Φ => match geE E i with
  | .m ds => f (moE E i ds) fun d => flD d = true ∧ Φ d
  | _ => f E Φ
theorem W_view {K : PySem.W.Frag} {E : Ev} {Φ : PyData → Prop} {i : Nat} {ds : List PyData} (hs : E[i]? = some (.m ds)) (h : W K p (E.set i (.d (.list ds))) te fun d => flD d = true ∧ Φ d) : W K p E te Φ := by
  intro H0 G H σ j e Q q
  obtain ⟨l, vs, h1, h2, h3, h4, h5, h6⟩ := e.own hs
  refine h H0 (upd G l (.lst vs)) H σ (j.frozen h2 h5) (e.view hs h1 h2 h3 h4) Q fun v d G' H' x' j' dv hd => ?_
  have s1 : Same G (upd G l (.lst vs)) := fun a o z => by
    rw [upd_ne (ne_of_none z h4)]
    exact z
  exact q v d G H' ⟨Same.refl G, x'.hh, fun _ _ _ z => z⟩ ⟨(s1.trans x'.gg).trans j'.sub, fun a ha => ⟨(j.pl a ha).1, (j'.pl a ha).2⟩⟩ (flat_dp hd.1 dv) hd.2
theorem de_view (i : Nat) (h : DE X p e te fe) : DE X p e te (vView i fe) := by
  refine ⟨h.py, fun E Φ q => ?_⟩
  unfold vView at q
  split at q
  · rename_i ds w
    rw [moE_eq] at q
    exact W_view (geE_ok w Sl.noConfusion) (h.ok _ _ q)
  · exact h.ok E Φ q
def vViewT (i : Nat) (f : WB) : WB := fun E Θ => match geE E i with
  | .m ds => f (moE E i ds) Θ
  | _ => f E Θ
theorem WT_view {K : PySem.W.Frag} {E : Ev} {Θ : Bool → Prop} {i : Nat} {ds : List PyData} (hs : E[i]? = some (.m ds)) (h : WT K p (E.set i (.d (.list ds))) tt Θ) : WT K p E tt Θ := by
  intro H0 G H σ j e Q q
  obtain ⟨l, vs, h1, h2, h3, h4, h5, h6⟩ := e.own hs
  refine h H0 (upd G l (.lst vs)) H σ (j.frozen h2 h5) (e.view hs h1 h2 h3 h4) Q fun b G' H' x' j' hd => ?_
  have s1 : Same G (upd G l (.lst vs)) := fun a o z => by
    rw [upd_ne (ne_of_none z h4)]
    exact z
  exact q b G H' ⟨Same.refl G, x'.hh, fun _ _ _ z => z⟩ ⟨(s1.trans x'.gg).trans j'.sub, fun a ha => ⟨(j.pl a ha).1, (j'.pl a ha).2⟩⟩ hd
theorem dt_view (i : Nat) (h : DT X p e tt ft) : DT X p e tt (vViewT i ft) := by
  refine ⟨h.py, fun E Φ q => ?_⟩
  unfold vViewT at q
  split at q
  · rename_i ds w
    rw [moE_eq] at q
    exact WT_view (geE_ok w Sl.noConfusion) (h.ok _ _ q)
  · exact h.ok E Φ q

/-! ### built-ins -/
structure DB (X : Cx) (f : Value) (r : List V → Hp → VK → Prop) (o : WF) : Prop where
  py : CallR X f r
  ok : ∀ p xs Φ, o xs Φ → WC X.K p r xs Φ
def vB (o : WF) (f : WL) : WE := fun E Φ => f E fun xs => o xs Φ
theorem de_cb {id : String} {r : List V → Hp → VK → Prop} {o : WF} {x : Str} {px : Pos} (hb : DB X (.builtin id) r o) (hg : Gl X x) (hm : X.mg x = none) (hv : bootBuiltins x = some (.builtin id)) (ha : DA X p (e :: es) tA fA)
    (hn : x ≠ "__name__" := by decide) (hdb : (x == ("__debug__" : Str)) = false := by decide) (he : starEach (e :: es) X.env = (false, eval e X.env) :: starEach es X.env := by rfl)
    (hpl : (backTo pos (starEach es X.env)).any (·.1) = false := by rfl) : DE X p (.Call (.Name x px) (e :: es) [] pos) (tCB r tA) (vB o fA) :=
  ⟨pe_callB hb.py hg hm hv ha.py hn hdb he hpl, fun E Φ q => W_cb ((ha.ok E _ q).imp fun xs hx => hb.ok p xs Φ hx.2)⟩
theorem de_cty {T : String} {r : List V → Hp → VK → Prop} {o : WF} {x : Str} {px : Pos} (hb : DB X (.type T) r o) (hg : Gl X x) (hm : X.mg x = none) (hv : bootBuiltins x = some (.type T)) (ha : DA X p (e :: es) tA fA)
    (hn : x ≠ "__name__" := by decide) (hdb : (x == ("__debug__" : Str)) = false := by decide) (he : starEach (e :: es) X.env = (false, eval e X.env) :: starEach es X.env := by rfl)
    (hpl : (backTo pos (starEach es X.env)).any (·.1) = false := by rfl) : DE X p (.Call (.Name x px) (e :: es) [] pos) (tCB r tA) (vB o fA) :=
  ⟨pe_callTy hb.py hg hm hv ha.py hn hdb he hpl, fun E Φ q => W_cb ((ha.ok E _ q).imp fun xs hx => hb.ok p xs Φ hx.2)⟩
def oLen : WF := fun xs Φ => match xs with
  | [.list ds] => Φ (.int ds.length)
  | [.tuple ds] => Φ (.int ds.length)
  | _ => False
theorem db_len : DB X (.builtin "len") (rLenS X.K) oLen := by
  refine ⟨cr_len, fun p xs Φ h => ?_⟩
  unfold oLen at h
  split at h
  · exact WC_lenL h
  · exact WC_lenT h
  · exact h.elim
def oAbs : WF := fun xs Φ => match xs with
  | [.int i] => Φ (.int (if i < 0 then -i else i))
  | _ => False
theorem db_abs : DB X (.builtin "abs") rAbs oAbs := by
  refine ⟨cr_abs, fun p xs Φ h => ?_⟩
  unfold oAbs at h
  split at h
  · exact WC_abs h
  · exact h.elim
def oRepr : WF := fun xs Φ => match xs with
  | [d] => PyData.showable d = true ∧ PyData.hasDict d = false ∧ PyData.depth d ≤ 60 ∧ (PyData.shown d).length ≤ sizeLine ∧ Φ (.str (PyData.shown d))
  | _ => False
theorem db_repr (hg : X.A.guards = some []) (hu : X.A.units + 64 < cLine) : DB X (.builtin "repr") (rRepr X.K) oRepr := by
  refine ⟨cr_repr hg hu, fun p xs Φ h => ?_⟩
  unfold oRepr at h
  split at h
  · obtain ⟨h1, h2, h3, h4, k⟩ := h
    rename_i d
    intro G H vs j dv Q q
    cases dv with
    | @cons v _ _ _ a b =>
      cases b
      exact ⟨v, d, rfl, dp_mono j.sub d v a, h1, h2, h3, h4, q _ _ G H Xt.refl j (.str _) k⟩
  · exact h.elim
def oDivmod : WF := fun xs Φ => match xs with
  | [.int a, .int b] => (0 < b ∧ b < 1073741824) ∧ Φ (.tuple [.int (a / b), .int (a % b)])
  | _ => False
theorem db_divmod : DB X (.builtin "divmod") rDivmod oDivmod := by
  refine ⟨cr_divmod, fun p xs Φ h => ?_⟩
  unfold oDivmod at h
  split at h
  · exact WC_divmod h.1 h.2
  · exact h.elim
def oMax : WF := fun xs Φ => match xs with
  | [.int a, .int b] => Φ (.int (if b > a then b else a))
  | _ => False
theorem db_max (hc : X.calm = true) : DB X (.builtin "max") rMax2 oMax := by
  refine ⟨cr_max2 hc, fun p xs Φ h => ?_⟩
  unfold oMax at h
  split at h
  · exact WC_max2 h
  · exact h.elim
def oMin : WF := fun xs Φ => match xs with
  | [.int a, .int b] => Φ (.int (if b < a then b else a))
  | _ => False
theorem db_min (hc : X.calm = true) : DB X (.builtin "min") rMin2 oMin := by
  refine ⟨cr_min2 hc, fun p xs Φ h => ?_⟩
  unfold oMin at h
  split at h
  · exact WC_min2 h
  · exact h.elim
def oTupOf : WF := fun xs Φ => match xs with
  | [.list ds] => Φ (.tuple ds)
  | [.tuple ds] => Φ (.tuple ds)
  | _ => False
theorem db_tup : DB X (.type "tuple") (rTupOf X.K) oTupOf := by
  refine ⟨cr_tupOf, fun p xs Φ h => ?_⟩
  unfold oTupOf at h
  split at h
  · exact WC_tupL h
  · exact WC_tupT h
  · exact h.elim
def oInt : WF := fun xs Φ => match xs with
  | [.int i] => Φ (.int i)
  | [.bool b] => Φ (.int (if b then 1 else 0))
  | _ => False
theorem db_int : DB X (.type "int") rInt1 oInt := by
  refine ⟨cr_int, fun p xs Φ h => ?_⟩
  unfold oInt at h
  split at h
  · exact WC_int h
  · rename_i b
    intro G H vs j dv Q q
    cases dv with
    | cons a z =>
      cases z
      rw [dp_bl a]
      exact Or.inr ⟨b, rfl, q _ _ G H Xt.refl j (.int _) h⟩
  · exact h.elim
def oStr : WF := fun xs Φ => match xs with
  | [.int i] => i.natAbs.log2 < 1920 ∧ Φ (.str (toString i : String))
  | _ => False
theorem db_str : DB X (.type "str") rStrI oStr := by
  refine ⟨cr_strI, fun p xs Φ h => ?_⟩
  unfold oStr at h
  split at h
  · rename_i i
    intro G H vs j dv Q q
    cases dv with
    | cons a z =>
      cases z
      rw [dp_int a]
      exact ⟨i, rfl, h.1, q _ _ G H Xt.refl j (.str _) h.2⟩
  · exact h.elim
def oGcd : WF := fun xs Φ => match xs with
  | [.int a, .int b] => Φ (.int ((Nat.gcd a.natAbs b.natAbs : Nat) : Int))
  | _ => False
def allB : List PyData → Option Bool
  | [] => some true
  | .bool b :: xs => (allB xs).map fun c => b && c
  | _ => none
theorem allB_ok : ∀ {ds : List PyData} {b : Bool}, allB ds = some b → ∃ bs : List Bool, ds = bs.map PyData.bool ∧ b = bs.all id
  | [], b, h => ⟨[], rfl, by cases h; rfl⟩
  | .bool c :: xs, b, h => by
    cases z : allB xs with
    | none => rw [allB, z] at h; cases h
    | some d =>
      rw [allB, z] at h
      cases h
      obtain ⟨bs, e1, e2⟩ := allB_ok z
      exact ⟨c :: bs, by rw [e1]; rfl, by rw [e2]; rfl⟩
  | .none :: _, _, h => by cases h
  | .int _ :: _, _, h => by cases h
  | .str _ :: _, _, h => by cases h
  | .list _ :: _, _, h => by cases h
  | .tuple _ :: _, _, h => by cases h
  | .dict _ :: _, _, h => by cases h
def oAll : WF := fun xs Φ => match xs with
  | [.list ds] => (match allB ds with
    | some b => Φ (.bool b)
    | none => False)
  | _ => False
theorem db_all (hc : X.calm = true) : DB X (.builtin "all") (rAll X.K) oAll := by
  refine ⟨cr_all hc, fun p xs Φ h => ?_⟩
  unfold oAll at h
  split at h
  · split at h <;> rename_i w
    · obtain ⟨bs, rfl, rfl⟩ := allB_ok w
      exact WC_all h
    · exact h.elim
  · exact h.elim
/-- isinstance(e, T) -/
def vIsi (g : PyData → Bool) (f : WE) : WE := fun E Φ => f E fun d => Φ (.bool (g d))
theorem de_isi {T : String} {g : PyData → Bool} {x : Str} {px : Pos} (hT : ∀ d, kitB (tyD d) T = some (g d)) (hg : Gl X x) (hm : X.mg x = none) (hv : bootBuiltins x = some (.builtin "isinstance")) (h1 : DE X p a ta fa) (h2 : PE X b (tC (.ty T)))
    (hn : x ≠ "__name__" := by decide) (hdb : (x == ("__debug__" : Str)) = false := by decide) (he : starEach (a :: [b]) X.env = (false, eval a X.env) :: starEach [b] X.env := by rfl) (he2 : starEach (b :: []) X.env = (false, eval b X.env) :: starEach [] X.env := by rfl)
    (hpl : (backTo pos (starEach [b] X.env)).any (·.1) = false := by rfl) : DE X p (.Call (.Name x px) [a, b] [] pos) (tCB (rIsi X.K) (tCons ta (tCons (tC (.ty T)) tNil))) (vIsi g fa) :=
  ⟨pe_callB call_isi hg hm hv (pa_cons h1.py (pa_cons h2 pa_nil he2) he) hn hdb he hpl, fun E Φ q => W_isi ((h1.ok E _ q).imp fun d hd => ⟨_, hT d, hd⟩)⟩
/-- tuple(xs), xs a list of one's own -/
def vTupV (i : Nat) : WE := fun E Φ => match geE E i with
  | .d d => oTupOf [d] Φ
  | .m ds => Φ (.tuple ds)
  | _ => False
theorem de_tupV {i : Nat} {x y : Str} {p1 px : Pos} (hN : X.N[i]? = some y) (hvv : Vis X.env.scope y) (hg : Gl X x) (hm : X.mg x = none) (hv : bootBuiltins x = some (.type "tuple")) (hd : (y == ("__debug__" : Str)) = false := by decide) (hcd : (y == ("__classdict__" : Str)) = false := by decide)
    (hn : x ≠ "__name__" := by decide) (hdb : (x == ("__debug__" : Str)) = false := by decide) (he : starEach [.Name y p1] X.env = (false, eval (.Name y p1) X.env) :: starEach [] X.env := by rfl)
    (hpl : (backTo pos (starEach [] X.env)).any (·.1) = false := by rfl) : DE X p (.Call (.Name x px) [.Name y p1] [] pos) (tCB (rTupOf X.K) (tCons (tVar i) tNil)) (vTupV i) := by
  refine ⟨pe_callTy cr_tupOf hg hm hv (pa_cons (pe_var hN hvv hd hcd) pa_nil he) hn hdb he hpl, fun E Φ h => ?_⟩
  unfold vTupV at h
  split at h
  · rename_i d q
    exact W_cb (WA_cons (W_var (geE_ok q Sl.noConfusion) (WA_nil (db_tup.ok p [d] Φ h))))
  · rename_i ds q
    exact W_tupM (geE_ok q Sl.noConfusion) h
  · exact h.elim
/-- list(e): a new list of one's own -/
def vLst (f : WE) : WL := fun E Ψ => f E fun d => match d with
  | .tuple ds => Ψ ds
  | .list ds => Ψ ds
  | _ => False
theorem dm_list {x : Str} {px : Pos} (h : DE X p e te fe) (hg : Gl X x) (hm : X.mg x = none) (hv : bootBuiltins x = some (.type "list")) (hn : x ≠ "__name__" := by decide) (hdb : (x == ("__debug__" : Str)) = false := by decide)
    (he : starEach [e] X.env = (false, eval e X.env) :: starEach [] X.env := by rfl) (hpl : (backTo pos (starEach [] X.env)).any (·.1) = false := by rfl) :
    DM X p (.Call (.Name x px) [e] [] pos) (tCB (rLstOf X.K) (tCons te tNil)) (vLst fe) :=
  ⟨pe_callTy cr_lstOf hg hm hv (pa_cons h.py pa_nil he) hn hdb he hpl, fun E Ψ q => WM_lstOf (WA_cons ((h.ok E _ q).imp fun d hd => WA_nil (by
    cases d with
    | tuple ds => exact ⟨ds, Or.inl rfl, hd⟩
    | list ds => exact ⟨ds, Or.inr rfl, hd⟩
    | _ => exact hd.elim)))⟩

/-! ### slices -/
structure DOp (X : Cx) (p : Option Addr) (o : Option Expr) (t : TO) (f : Ev → (Option Int → Prop) → Prop) : Prop where
  py : PO X o t
  ok : ∀ E Θ, f E Θ → WO X.K p E t Θ
def vPart (f : WE) : Ev → (Option Int → Prop) → Prop := fun E Θ => f E fun d => match d with
  | .int i => Θ (some i)
  | _ => False
theorem do_none : DOp X p none tNoPart (fun _ Θ => Θ none) := ⟨po_none, fun _ _ h => WO_none h⟩
theorem do_some (h : DE X p e te fe) : DOp X p (some e) (tPart te) (vPart fe) := ⟨po_some h.py, fun E Θ q => WO_some ((h.ok E _ q).imp fun d hd => by
  cases d with
  | int i => exact ⟨i, rfl, hd⟩
  | _ => exact hd.elim)⟩
section
variable {lo hi : Option Expr} {tl th : TO} {fl fh : Ev → (Option Int → Prop) → Prop} {p2 : Pos}
/-- a list's slice: a new list of one's own -/
def vSlL (f : WE) (fl fh : Ev → (Option Int → Prop) → Prop) : WL := fun E Ψ => f E fun d => match d with
  | .list ds => fl E fun l => fh E fun h => Ψ (cutD ds l h)
  | _ => False
theorem dm_sl (h : DE X p e te fe) (h1 : DOp X p lo tl fl) (h2 : DOp X p hi th fh) : DM X p (.Subscript e (.Slice lo hi none p2) pos) (tSl (rSlL X.K) te tl th) (vSlL fe fl fh) := by
  refine ⟨pe_slice sl_list h.py h1.py h2.py, fun E Ψ q => WM_slL ((h.ok E _ q).imp fun d hd => ?_)⟩
  cases d with
  | list ds => exact ⟨ds, rfl, fun H0 G H σ j e Q q => h1.ok E _ hd H0 G H σ j e Q fun o G' H' x j z => q o G' H' x j (h2.ok E _ z)⟩
  | _ => exact hd.elim
def vSlT (f : WE) (fl fh : Ev → (Option Int → Prop) → Prop) : WE := fun E Φ => f E fun d => match d with
  | .tuple ds => fl E fun l => fh E fun h => Φ (.tuple (cutD ds l h))
  | _ => False
theorem de_slT (h : DE X p e te fe) (h1 : DOp X p lo tl fl) (h2 : DOp X p hi th fh) : DE X p (.Subscript e (.Slice lo hi none p2) pos) (tSl (rSlA X.K) te tl th) (vSlT fe fl fh) := by
  refine ⟨pe_slice sl_tupA h.py h1.py h2.py, fun E Φ q => ?_⟩
  intro H0 G H σ j e Q z
  refine h.ok E _ q H0 G H σ j e _ fun v d G1 H1 x1 j1 dv hd => ?_
  cases d with
  | tuple ds =>
    refine h1.ok E _ hd H0 G1 H1 σ j1 (e.mono x1) _ fun l G2 H2 x2 j2 k2 => ?_
    refine h2.ok E _ k2 H0 G2 H2 σ j2 ((e.mono x1).mono x2) _ fun hh G3 H3 x3 j3 k3 => ?_
    obtain ⟨m, xs, rfl, hs, ha⟩ := dp_tup dv
    have x13 := x1.trans (x2.trans x3)
    have g13 := x2.gg.trans x3.gg
    have da := dpA_mono g13 ds xs ha
    refine ⟨m, xs, rfl, sqT_mono (g13.trans j3.sub) hs, fun w => ?_, fun w n hn => ?_⟩
    · rw [dpA_len ha] at w
      have e1 : cutD ds l hh = ds := by
        unfold cutD
        rw [w.1, w.2, List.drop_zero, Nat.sub_zero, List.take_length]
      rw [e1] at k3
      exact z _ _ G3 H3 x13 j3 (.tup (sqT_mono g13 hs) da) k3
    · have x4 := Xt.laid (p := p) j3 (o := .tup (cutV xs l hh)) hn
      exact z _ _ _ _ (x13.trans x4) (j3.laid hn) (.tup (SqT.of upd_same) (dpA_mono x4.gg _ _ (cut_ds l hh da))) k3
  | _ => exact hd.elim
/-- a slice of a list of one's own -/
def vSlV (i : Nat) (fl fh : Ev → (Option Int → Prop) → Prop) : WL := fun E Ψ => match geE E i with
  | .m ds => fl E fun l => fh E fun h => Ψ (cutD ds l h)
  | .d (.list ds) => fl E fun l => fh E fun h => Ψ (cutD ds l h)
  | _ => False
end
end
end Rim

/-! RimG: calls of defs by what they come to; what is walked; comprehensions; loops; statements; a def's body. -/
namespace Rim
open PySem PySem.Spec L2

/-! ### defs by what they come to -/
def spF (K : PySem.W.Frag) (n : Nat) (F : WF) : Sp := fun vs H Q _ =>
  vs.length = n ∧ ∃ (p : Option Addr) (G : Hp) (ds : List PyData) (Φ : PyData → Prop), J p G H ∧ DpAll K G vs ds ∧ F ds Φ ∧
    ∀ v d G' H', Xt p G H G' H' → J p G' H' → Dp K G' v d → Φ d → Q v H'
/-- the first argument is the laws' pail -/
def spQ (K : PySem.W.Frag) (n : Nat) (F : Addr → WF) : Sp := fun vs H Q _ =>
  vs.length = n ∧ ∃ (a : Addr) (ws : List V) (G : Hp) (ds : List PyData) (Φ : PyData → Prop), vs = .ref a :: ws ∧ J (some a) G H ∧ DpAll K G ws ds ∧ F a ds Φ ∧
    ∀ v d G' H', Xt (some a) G H G' H' → J (some a) G' H' → Dp K G' v d → Φ d → Q v H'
def mkF (n m : Nat) (b : WS) : WF := fun ds Φ => ds.length = n ∧ b (ends ds m) ⟨fun _ => Φ .none, Φ, Nev, Nev⟩
def mkQ (n m : Nat) (b : Addr → WS) : Addr → WF := fun a ds Φ => ds.length + 1 = n ∧ b a (.v (.ref a) :: ends ds m) ⟨fun _ => Φ .none, Φ, Nev, Nev⟩
/-- so many arguments -/
def Ari (n : Nat) (F : WF) : Prop := ∀ ds Φ, F ds Φ → ds.length = n
theorem mkF_ari {n m : Nat} {b : WS} : Ari n (mkF n m b) := fun _ _ h => h.1
def AriQ (n : Nat) (F : Addr → WF) : Prop := ∀ a ds Φ, F a ds Φ → ds.length + 1 = n
theorem mkQ_ari {n m : Nat} {b : Addr → WS} : AriQ n (mkQ n m b) := fun _ _ _ h => h.1
theorem spF_len {K : PySem.W.Frag} {n : Nat} {F : WF} {vs : List V} {H : Hp} {Q : VK} {E : XK} (h : spF K n F vs H Q E) : vs.length = n := h.1
theorem spQ_len {K : PySem.W.Frag} {n : Nat} {F : Addr → WF} {vs : List V} {H : Hp} {Q : VK} {E : XK} (h : spQ K n F vs H Q E) : vs.length = n := h.1
theorem body_F {K : PySem.W.Frag} {n : Nat} {b : WS} {t : TS} {N : List Str} {vs : List V} {H : Hp} {Q : VK} {E : XK} (m : Nat) (hN : N.length = n + m) (hsp : spF K n (mkF n m b) vs H Q E)
    (h : ∀ (p : Option Addr) E P, b E P → S K p E t P.N P.R P.B P.C) : t { nx := fun _ H' => Q .non H', rt := Q } (start N vs) H := by
  obtain ⟨hn, p, G, ds, Φ, j, dv, ⟨hl, hb⟩, k⟩ := hsp
  refine h p _ _ hb G H G H _ Xt.refl j (env_start dv m (by rw [hn]; exact hN)) _ ?_
  exact ⟨fun σ E G' H' x j' e o => k _ _ G' H' x j' .non o, fun v d G' H' x j' dv' o => k v d G' H' x j' dv' o, fun _ _ _ _ _ _ _ z => z.elim, fun _ _ _ _ _ _ _ z => z.elim⟩
theorem env_pail {K : PySem.W.Frag} {G H : Hp} {N : List Str} {a : Addr} {ws : List V} {ds : List PyData} (dv : DpAll K G ws ds) (m : Nat) (hN : N.length = ws.length + 1 + m) :
    EnvOk K (some a) H G H (start N (.ref a :: ws)) (.v (.ref a) :: ends ds m) := by
  have e := env_start (K := K) (p := some a) (G := G) (H := H) (N := N.tail) dv m (by rw [List.length_tail]; omega)
  have e2 : start N (.ref a :: ws) = some (.ref a) :: start N.tail ws := by
    unfold L2.start
    rw [List.length_tail, List.length_cons, List.map_cons, List.cons_append]
    congr 3
    omega
  rw [e2]
  refine ⟨by rw [List.length_cons, List.length_cons, e.len], fun x s hs => ?_, fun x y ds es l hxy hx hy hl => ?_⟩
  · cases x with
    | zero =>
      cases hs
      exact rfl
    | succ x => exact e.at_ x s hs
  · cases x with
    | zero => cases hx
    | succ x =>
      cases y with
      | zero => cases hy
      | succ y => exact e.ap x y ds es l (fun z => hxy (by rw [z])) hx hy hl
theorem body_Q {K : PySem.W.Frag} {n : Nat} {b : Addr → WS} {t : TS} {N : List Str} {vs : List V} {H : Hp} {Q : VK} {E : XK} (m : Nat) (hN : N.length = n + m) (hsp : spQ K n (mkQ n m b) vs H Q E)
    (h : ∀ (a : Addr), vs.head? = some (.ref a) → ∀ E P, b a E P → S K (some a) E t P.N P.R P.B P.C) : t { nx := fun _ H' => Q .non H', rt := Q } (start N vs) H := by
  obtain ⟨hn, a, ws, G, ds, Φ, rfl, j, dv, ⟨hl, hb⟩, k⟩ := hsp
  rw [List.length_cons] at hn
  refine h a rfl _ _ hb G H G H _ Xt.refl j (env_pail dv m (by omega)) _ ?_
  exact ⟨fun σ E G' H' x j' e o => k _ _ G' H' x j' .non o, fun v d G' H' x j' dv' o => k v d G' H' x j' dv' o, fun _ _ _ _ _ _ _ z => z.elim, fun _ _ _ _ _ _ _ z => z.elim⟩
section
variable {X : Cx} {p : Option Addr} {e a b c : Expr} {es : List Expr} {te ta tb tc : TE} {fe fa fb fc : WE} {tA : TA} {fA : WL} {pos : Pos} {tt tu : TT} {ft fu : WB} {gM : WL}
  {CX : CXT} {k n : Nat} {f : Addr} {fd : FuncData} {ps ks : List Str} {F : WF} {ds : List Value} {E0 : XK} {x : Str} {px : Pos}
/-! ### calls -/
def vCall (F : WF) (f : WL) : WE := fun E Φ => f E fun xs => F xs Φ
theorem de_call (hf : FnG X.prog X.w X.K X.mg X.base CX k f fd ps (spF X.K n F)) (hF : Ari n F) (hr : Room k X.A) (hgu : X.A.guards = some [])
    (hg : Gl X x) (hm : X.mg x = some (.ref f)) (hk : PySem.W.keepIn X.K (.ref f) = true) (hb : Binds X.K fd ps []) (hx : Passes CX X E0) (ha : DA X p (e :: es) tA fA)
    (hdb : (x == ("__debug__" : Str)) = false := by decide)
    (he : starEach (e :: es) X.env = (false, eval e X.env) :: starEach es X.env := by rfl)
    (hpl : (backTo pos (starEach es X.env)).any (·.1) = false := by rfl) :
    DE X p (.Call (.Name x px) (e :: es) [] pos) (tCall (spF X.K n F) [] E0 tA) (vCall F fA) := by
  refine ⟨pe_callG hf hr hgu hg hm hk hb .nil hx ha.py hdb he hpl, fun E Φ q => ?_⟩
  intro H0 G H σ j e Q z
  refine ha.ok E _ q H0 G H σ j e _ fun vs xs G1 H1 x1 j1 dvs h1 => ?_
  rw [List.append_nil]
  exact ⟨(dpA_len dvs).trans (hF _ _ h1.2), p, G1, xs, Φ, j1, dvs, h1.2, fun v d G2 H2 x2 j2 dv hd => z v d G2 H2 (x1.trans x2) j2 dv hd⟩
/-- defaults behind -/
def vCallD (F : WF) (dd : List PyData) (f : WL) : WE := fun E Φ => f E fun xs => F (xs ++ dd) Φ
theorem de_callD {dvs : List V} {dd : List PyData} (hf : FnG X.prog X.w X.K X.mg X.base CX k f fd ps (spF X.K n F)) (hF : Ari n F) (hdd : ∀ G, DpAll X.K G dvs dd) (hr : Room k X.A) (hgu : X.A.guards = some [])
    (hg : Gl X x) (hm : X.mg x = some (.ref f)) (hk : PySem.W.keepIn X.K (.ref f) = true) (hb : Binds X.K fd ps ds) (hvd : Vals dvs ds) (hx : Passes CX X E0) (ha : DA X p (e :: es) tA fA)
    (hdb : (x == ("__debug__" : Str)) = false := by decide)
    (he : starEach (e :: es) X.env = (false, eval e X.env) :: starEach es X.env := by rfl)
    (hpl : (backTo pos (starEach es X.env)).any (·.1) = false := by rfl) :
    DE X p (.Call (.Name x px) (e :: es) [] pos) (tCall (spF X.K n F) dvs E0 tA) (vCallD F dd fA) := by
  refine ⟨pe_callG hf hr hgu hg hm hk hb hvd hx ha.py hdb he hpl, fun E Φ q => ?_⟩
  intro H0 G H σ j e Q z
  refine ha.ok E _ q H0 G H σ j e _ fun vs xs G1 H1 x1 j1 dvs' h1 => ?_
  have da := dpA_append dvs' (hdd G1)
  exact ⟨(dpA_len da).trans (hF _ _ h1.2), p, G1, xs ++ dd, Φ, j1, da, h1.2, fun v d G2 H2 x2 j2 dv hd => z v d G2 H2 (x1.trans x2) j2 dv hd⟩
/-- by keywords alone: g puts the values in order (defaults among them) -/
def vCallK (F : WF) (g : List PyData → List PyData) (f : WL) : WE := fun E Φ => f E fun xs => F (g xs) Φ
structure DK (X : Cx) (p : Option Addr) (kws : List Keyword) (t : TA) (f : WL) : Prop where
  py : PK X kws t
  ok : ∀ E Ψ, f E Ψ → WA X.K p E t fun xs => xs.length = kws.length ∧ Ψ xs
theorem de_callK {kws : List Keyword} {g : List Value → List Value → List Value} {gV : List V → List V → List V} {gD : List PyData → List PyData} (hf : FnG X.prog X.w X.K X.mg X.base CX k f fd ps (spF X.K n F)) (hF : Ari n F)
    (hgd : ∀ (G : Hp) (vs : List V) (ds : List PyData), DpAll X.K G vs ds → ds.length = ks.length → DpAll X.K G (gV [] vs) (gD ds)) (hr : Room k X.A) (hgu : X.A.guards = some [])
    (hg : Gl X x) (hm : X.mg x = some (.ref f)) (hk : PySem.W.keepIn X.K (.ref f) = true) (hb : KBn X.K fd ps 0 ks g gV) (hx : Passes CX X E0) (hkw : DK X p kws tA fA) (hkl : kws.length = ks.length := by rfl)
    (hall : (backToKw pos (keywordEach kws X.env)).all (·.1.isSome) = true := by rfl)
    (hks : (backToKw pos (keywordEach kws X.env)).filterMap (·.1) = ks := by rfl)
    (hdb : (x == ("__debug__" : Str)) = false := by decide)
    (hpl : ((backTo pos (starEach [] X.env)).any (·.1) || (backToKw pos (keywordEach kws X.env)).any (·.1.isNone)) = false := by rfl) :
    DE X p (.Call (.Name x px) [] kws pos) (tCallN 0 ks.length (spF X.K n F) gV E0 tNil tA) (vCallK F gD fA) := by
  refine ⟨pe_callGK hf hr hgu hg hm hk hb hx hkw.py hall hks hdb hpl, fun E Φ q => ?_⟩
  intro H0 G H σ j e Q z
  refine hkw.ok E _ q H0 G H σ j e _ fun vs xs G1 H1 x1 j1 dvs h1 => ?_
  have da := hgd G1 vs xs dvs (h1.1.trans hkl)
  exact ⟨rfl, (dpA_len dvs).trans (h1.1.trans hkl), (dpA_len da).trans (hF _ _ h1.2), p, G1, gD xs, Φ, j1, da, h1.2, fun v d G2 H2 x2 j2 dv hd => z v d G2 H2 (x1.trans x2) j2 dv hd⟩
/-- the pail ahead -/
def vCallQ (k : Nat) (a : Addr) (F : Addr → WF) (f : WL) : WE := fun E Φ => geE E k = .v (.ref a) ∧ f E fun xs => F a xs Φ
theorem de_callQ {ap : Addr} {i : Nat} {e1 : Expr} {FQ : Addr → WF} (hf : FnG X.prog X.w X.K X.mg X.base CX k f fd ps (spQ X.K n FQ)) (hF : AriQ n FQ) (hr : Room k X.A) (hgu : X.A.guards = some [])
    (hg : Gl X x) (hm : X.mg x = some (.ref f)) (hk : PySem.W.keepIn X.K (.ref f) = true) (hb : Binds X.K fd ps []) (hx : Passes CX X E0) (hp : PE X e1 (tVar i)) (ha : DA X (some ap) es tA fA)
    (hdb : (x == ("__debug__" : Str)) = false := by decide)
    (he : starEach (e1 :: es) X.env = (false, eval e1 X.env) :: starEach es X.env := by rfl)
    (hpl : (backTo pos (starEach es X.env)).any (·.1) = false := by rfl) :
    DE X (some ap) (.Call (.Name x px) (e1 :: es) [] pos) (tCall (spQ X.K n FQ) [] E0 (tCons (tVar i) tA)) (vCallQ i ap FQ fA) := by
  refine ⟨pe_callG hf hr hgu hg hm hk hb .nil hx (pa_cons hp ha.py he) hdb he hpl, fun E Φ q => ?_⟩
  obtain ⟨q1, q2⟩ := q
  intro H0 G H σ j e Q z
  refine ⟨_, e.val (geE_ok q1 Sl.noConfusion), ?_⟩
  refine ha.ok E _ q2 H0 G H σ j e _ fun vs xs G1 H1 x1 j1 dvs h1 => ?_
  show spQ X.K n FQ ((.ref ap :: vs) ++ []) H1 Q E0
  rw [List.append_nil]
  refine ⟨?_, ap, vs, G1, xs, Φ, rfl, j1, dvs, h1.2, fun v d G2 H2 x2 j2 dv hd => z v d G2 H2 (x1.trans x2) j2 dv hd⟩
  rw [List.length_cons, dpA_len dvs]
  exact hF _ _ _ h1.2
theorem dk_nil : DK X p [] tNil vNil := ⟨pk_nil, fun _ _ h => WA_nil ⟨rfl, h⟩⟩
theorem dk_cons {kws : List Keyword} {nm : Option Str} {kpos : Pos} (h : DE X p e te fe) (r : DK X p kws tA fA) : DK X p (⟨nm, e, kpos⟩ :: kws) (tCons te tA) (vCons fe fA) :=
  ⟨pk_cons h.py r.py, fun E Ψ q => WA_cons ((h.ok E _ q).imp fun x hx => (r.ok E _ hx).imp fun xs hxs => ⟨by rw [List.length_cons, List.length_cons, hxs.1], hxs.2⟩)⟩
end

/-! ### targets -/
/-- target g takes d; only the slots vs change -/
def TGv (K : PySem.W.Frag) (p : Option Addr) (E : Ev) (g : TG) (vs : List Nat) (d : PyData) (N : Ev → Prop) : Prop :=
  ∀ (H0 G H : Hp) (σ : L2.St) (v : V), J p G H → EnvOk K p H0 G H σ E → Dp K G v d → ∀ Q : L2.St → Hp → Prop,
    (∀ σ' E', EnvOk K p H0 G H σ' E' → N E' → σ'.length = σ.length → (∀ j, j ∉ vs → σ'[j]? = σ[j]?) → Q σ' H) → g v σ H Q
def TGvs (K : PySem.W.Frag) (p : Option Addr) (E : Ev) (g : TGs) (vs : List Nat) (ds : List PyData) (N : Ev → Prop) : Prop :=
  ∀ (H0 G H : Hp) (σ : L2.St) (us : List V), J p G H → EnvOk K p H0 G H σ E → DpAll K G us ds → ∀ Q : L2.St → Hp → Prop,
    (∀ σ' E', EnvOk K p H0 G H σ' E' → N E' → σ'.length = σ.length → (∀ j, j ∉ vs → σ'[j]? = σ[j]?) → Q σ' H) → g us σ H Q
structure DV (X : Cx) (p : Option Addr) (tg : Expr) (g : TG) (vs : List Nat) (f : WG) : Prop where
  py : PG X tg g
  ok : ∀ d E N, f d E N → TGv X.K p E g vs d N
structure DVs (X : Cx) (p : Option Addr) (tg : List Expr) (g : TGs) (vs : List Nat) (f : List PyData → Ev → (Ev → Prop) → Prop) : Prop where
  py : PGs X tg g
  ok : ∀ d E N, f d E N → TGvs X.K p E g vs d N
section
variable {X : Cx} {p : Option Addr} {pos : Pos}
def vgN (i : Nat) : WG := fun d E N => puE E i (.d d) N
def vgNil : List PyData → Ev → (Ev → Prop) → Prop := fun ds E N => match ds with
  | [] => N E
  | _ => False
def vgCons (f : WG) (g : List PyData → Ev → (Ev → Prop) → Prop) : List PyData → Ev → (Ev → Prop) → Prop := fun ds E N => match ds with
  | d :: ds => f d E fun E' => g ds E' N
  | _ => False
def vgT (n : Nat) (f : List PyData → Ev → (Ev → Prop) → Prop) : WG := fun d E N => match d with
  | .tuple ds => ds.length = n ∧ f ds E N
  | .list ds => ds.length = n ∧ f ds E N
  | _ => False
/-- several names = a tuple or a list of that length -/
def gBoth (K : PySem.W.Frag) (n : Nat) (t : TGs) : TG := fun v σ H Q => gTup K n t v σ H Q ∨ gLst K n t v σ H Q
theorem pg_both {es : List Expr} {k : Nat} {t : TGs} {n : Nat} (hc : X.calm = true) (h : PGs X es t) (hn : (assignEach es X.env).length = n := by rfl) (hst : (assignEach es X.env).findIdx? (·.1) = none := by rfl) :
    PG X (.Tuple es k pos) (gBoth X.K n t) :=
  ⟨fun pins s σ H v u Q I r hw => hw.elim (fun z => (pg_tup hc h hn hst).run pins s σ H v u Q I r z) fun z => (pg_lst hc h hn hst).run pins s σ H v u Q I r z⟩
theorem dv_name {i : Nat} {x : Str} (hN : X.N.Nodup) (hi : X.N[i]? = some x) (hx : Loc X.env.scope x) (hf : X.fn x = true ∨ X.env.scope.names.lookup x = some .local := by first | exact .inl rfl | exact .inr rfl | assumption) :
    DV X p (.Name x pos) (gName i) [i] (vgN i) := by
  refine ⟨pg_name hN hi hx hf, fun d E N h => ?_⟩
  obtain ⟨h1, h2⟩ := puE_ok h
  intro H0 G H σ v j e dv Q q
  have hs : i < σ.length := by rw [e.len]; exact h1
  refine q _ _ (e.setD hs dv) h2 (List.length_set ..) fun k hk => ?_
  rw [List.getElem?_set_ne (fun z => hk (by rw [z]; exact List.mem_singleton.mpr rfl))]
theorem dvs_nil : DVs X p [] gNil [] vgNil := by
  refine ⟨pgs_nil, fun ds E N h => ?_⟩
  intro H0 G H σ us j e dv Q q
  cases ds with
  | nil =>
    cases dv
    exact ⟨rfl, q σ E e h rfl fun _ _ => rfl⟩
  | cons _ _ => exact h.elim
theorem dvs_cons {tg : Expr} {tgs : List Expr} {g : TG} {gs : TGs} {vs ws : List Nat} {f : WG} {fs : List PyData → Ev → (Ev → Prop) → Prop} (h1 : DV X p tg g vs f) (h2 : DVs X p tgs gs ws fs)
    (hs : (assignEach (tg :: tgs) X.env).map (·.2) = assign tg X.env :: (assignEach tgs X.env).map (·.2) := by rfl) : DVs X p (tg :: tgs) (gCons g gs) (vs ++ ws) (vgCons f fs) := by
  refine ⟨pgs_cons h1.py h2.py hs, fun ds E N h => ?_⟩
  intro H0 G H σ us j e dv Q q
  cases ds with
  | nil => exact h.elim
  | cons d ds =>
    cases dv with
    | cons d1 dr =>
      refine ⟨_, _, rfl, h1.ok d E _ h H0 G H σ _ j e d1 _ fun σ1 E1 e1 k1 l1 a1 => ?_⟩
      refine h2.ok ds E1 _ k1 H0 G H σ1 _ j e1 dr _ fun σ2 E2 e2 k2 l2 a2 => ?_
      refine q σ2 E2 e2 k2 (l2.trans l1) fun k hk => ?_
      rw [a2 k fun z => hk (List.mem_append_right _ z), a1 k fun z => hk (List.mem_append_left _ z)]
theorem dv_tup {tgs : List Expr} {k : Nat} {gs : TGs} {n : Nat} {vs : List Nat} {fs : List PyData → Ev → (Ev → Prop) → Prop} (hc : X.calm = true) (h : DVs X p tgs gs vs fs)
    (hn : (assignEach tgs X.env).length = n := by rfl) (hst : (assignEach tgs X.env).findIdx? (·.1) = none := by rfl) : DV X p (.Tuple tgs k pos) (gBoth X.K n gs) vs (vgT n fs) := by
  refine ⟨pg_both hc h.py hn hst, fun d E N q => ?_⟩
  intro H0 G H σ v j e dv Q z
  cases d with
  | tuple ds =>
    obtain ⟨a, xs, rfl, hs, ha⟩ := dp_tup dv
    exact Or.inl ⟨a, xs, rfl, sqT_mono j.sub hs, (dpA_len ha).trans q.1, h.ok ds E N q.2 H0 G H σ xs j e ha Q z⟩
  | list ds =>
    obtain ⟨a, xs, rfl, hs, ha⟩ := dp_lst dv
    exact Or.inr ⟨a, xs, rfl, j.sub.seq hs, (dpA_len ha).trans q.1, h.ok ds E N q.2 H0 G H σ xs j e ha Q z⟩
  | _ => exact q.elim
theorem DV.tg {tg : Expr} {g : TG} {vs : List Nat} {f : WG} (h : DV X p tg g vs f) {d : PyData} {E : Ev} {N : Ev → Prop} (q : f d E N) : TGok X.K p E g d N :=
  fun H0 G H σ v j e dv Q z => h.ok d E N q H0 G H σ v j e dv Q fun σ' E' e' k _ _ => z σ' E' e' k
theorem wipe_at (σ : L2.St) : ∀ (vs : List Nat) (j : Nat), (wipe σ vs)[j]? = if j ∈ vs ∧ j < σ.length then some none else σ[j]?
  | [], j => by simp [wipe]
  | v :: vs, j => by
    show ((wipe σ vs).set v none)[j]? = _
    rw [List.getElem?_set]
    have ih := wipe_at σ vs j
    have hl := wipe_length σ vs
    by_cases h : v = j
    · subst h
      rw [if_pos rfl, hl]
      by_cases h2 : v < σ.length
      · rw [if_pos h2, if_pos ⟨List.mem_cons_self .., h2⟩]
      · rw [if_neg h2, if_neg fun z => h2 z.2, List.getElem?_eq_none (by omega)]
    · rw [if_neg h, ih]
      have e : (j ∈ v :: vs ∧ j < σ.length) ↔ (j ∈ vs ∧ j < σ.length) := by
        rw [List.mem_cons]
        exact ⟨fun z => ⟨z.1.resolve_left (Ne.symm h), z.2⟩, fun z => ⟨Or.inr z.1, z.2⟩⟩
      simp only [e]
theorem wipe_same {σ σ' : L2.St} {vs : List Nat} (hl : σ'.length = (wipe σ vs).length) (h : ∀ j, j ∉ vs → σ'[j]? = (wipe σ vs)[j]?) : wipe σ' vs = wipe σ vs := by
  have l0 := wipe_length σ vs
  refine List.ext_getElem? fun j => ?_
  rw [wipe_at]
  by_cases hj : j ∈ vs
  · rw [wipe_at]
    have e : σ'.length = σ.length := hl.trans l0
    rw [e]
    by_cases h2 : j < σ.length
    · rw [if_pos ⟨hj, h2⟩, if_pos ⟨hj, h2⟩]
    · rw [if_neg fun z => h2 z.2, if_neg fun z => h2 z.2, List.getElem?_eq_none (by omega), List.getElem?_eq_none (by omega)]
  · rw [if_neg fun z => hj z.1, h j hj]
end

/-! ### what is walked -/
/-- from G1, H1 on the walk gives the data xs, one by one -/
structure WalkD (K : PySem.W.Frag) (p : Option Addr) (Rel : Hp → Hp → Prop) (Jt : It) (xs : List PyData) : Prop where
  ex : ∃ (Gd : Hp → Prop) (Y : Nat → Hp → V → Hp → Prop), Walk Jt xs.length Gd Y ∧ (∀ G H, Rel G H → J p G H → Gd H) ∧
    ∀ i G H v H', i < xs.length → Rel G H → J p G H → Y i H v H' → ∃ G' d, Xt p G H G' H' ∧ J p G' H' ∧ xs[i]? = some d ∧ Dp K G' v d
def WI (K : PySem.W.Frag) (p : Option Addr) (E : Ev) (wi : TI) (Ψ : List PyData → Prop) : Prop :=
  ∀ (H0 G H : Hp) (σ : L2.St), J p G H → EnvOk K p H0 G H σ E → ∀ R : It → Hp → Prop,
    (∀ Jt xs G' H', Xt p G H G' H' → J p G' H' → WalkD K p (fun G2 _ => Same G' G2) Jt xs → Ψ xs → R Jt H') → wi σ H R
/-- while nothing else happens than what an expression does -/
def WIx (K : PySem.W.Frag) (p : Option Addr) (E : Ev) (wi : TI) (Ψ : List PyData → Prop) : Prop :=
  ∀ (H0 G H : Hp) (σ : L2.St), J p G H → EnvOk K p H0 G H σ E → ∀ R : It → Hp → Prop,
    (∀ Jt xs G' H', Xt p G H G' H' → J p G' H' → WalkD K p (fun G2 H2 => Xt p G' H' G2 H2) Jt xs → Ψ xs → R Jt H') → wi σ H R
theorem WI.x {K : PySem.W.Frag} {p : Option Addr} {E : Ev} {wi : TI} {Ψ : List PyData → Prop} (h : WI K p E wi Ψ) : WIx K p E wi Ψ := fun H0 G H σ j e R q =>
  h H0 G H σ j e R fun Jt xs G' H' x j' w z => q Jt xs G' H' x j' (by
    obtain ⟨Gd, Y, w1, w2, w3⟩ := w.ex
    exact ⟨⟨Gd, Y, w1, fun G2 H2 r => w2 G2 H2 r.gg, fun i G2 H2 v H3 hi r => w3 i G2 H2 v H3 hi r.gg⟩⟩) z
structure DI (X : Cx) (p : Option Addr) (tg iter : Expr) (wi : TI) (f : WL) : Prop where
  py : PI X tg iter wi
  ok : ∀ E Ψ, f E Ψ → WI X.K p E wi Ψ
structure DIx (X : Cx) (p : Option Addr) (tg iter : Expr) (wi : TI) (f : WL) : Prop where
  py : PI X tg iter wi
  ok : ∀ E Ψ, f E Ψ → WIx X.K p E wi Ψ
theorem DI.x {X : Cx} {p : Option Addr} {tg iter : Expr} {wi : TI} {f : WL} (h : DI X p tg iter wi f) : DIx X p tg iter wi f := ⟨h.py, fun E Ψ q => (h.ok E Ψ q).x⟩

section
variable {K : PySem.W.Frag} {p : Option Addr} {a b : Addr} {xs ys : List V} {ds es : List PyData} {G1 : Hp}
theorem wd_of {Jt : It} {n : Nat} {Gd : Hp → Prop} {Y : Nat → Hp → V → Hp → Prop} {zs : List PyData} (hn : zs.length = n) (w : Walk Jt n Gd Y) (hg : ∀ G H, Same G1 G → J p G H → Gd H)
    (hy : ∀ i G H v H', i < n → Same G1 G → J p G H → Y i H v H' → ∃ G' d, Xt p G H G' H' ∧ J p G' H' ∧ zs[i]? = some d ∧ Dp K G' v d) : WalkD K p (fun G2 _ => Same G1 G2) Jt zs := by
  subst hn
  exact ⟨⟨_, _, w, hg, hy⟩⟩
theorem wd_list (hs : SqL K G1 a xs) (ha : DpAll K G1 xs ds) : WalkD K p (fun G2 _ => Same G1 G2) (Itl K a) ds := by
  have hl := dpA_len ha
  refine ⟨⟨_, _, hl ▸ walk_list (xs := xs), fun G H r j => (r.trans j.sub).seq hs, fun i G H v H' hi r j y => ?_⟩⟩
  obtain ⟨rfl, hv⟩ := y
  obtain ⟨d, hd, dv⟩ := dpA_at ha hv
  exact ⟨G, d, Xt.refl, j, hd, dp_mono r d v dv⟩
theorem wd_tup (hs : SqT K G1 a xs) (ha : DpAll K G1 xs ds) : WalkD K p (fun G2 _ => Same G1 G2) (Itt K a) ds := by
  have hl := dpA_len ha
  refine ⟨⟨_, _, hl ▸ walk_tup (xs := xs), fun G H r j => sqT_mono (r.trans j.sub) hs, fun i G H v H' hi r j y => ?_⟩⟩
  obtain ⟨rfl, hv⟩ := y
  obtain ⟨d, hd, dv⟩ := dpA_at ha hv
  exact ⟨G, d, Xt.refl, j, hd, dp_mono r d v dv⟩
def rgD (lo : Int) (n : Nat) : List PyData := (List.range n).map fun (i : Nat) => .int (lo + (i : Int))
theorem wd_range {lo : Int} {n : Nat} : WalkD K p (fun G2 _ => Same G1 G2) (Itr lo n) (rgD lo n) := by
  have hl : (rgD lo n).length = n := by simp [rgD]
  refine wd_of hl (walk_range (lo := lo) (n := n)) (fun G H r j => trivial) fun i G H v H' hi r j y => ?_
  obtain ⟨rfl, hv⟩ := y
  refine ⟨G, .int (lo + (i : Int)), Xt.refl, j, by simp [rgD, hi], ?_⟩
  rw [hv]
  exact .int _
theorem wd_rangeC {lo c : Int} {n : Nat} : WalkD K p (fun G2 _ => Same G1 G2) (Itc lo c n) ((List.range n).map fun (i : Nat) => PyData.int (lo + (i : Int) * c)) := by
  have hl : ((List.range n).map fun (i : Nat) => PyData.int (lo + (i : Int) * c)).length = n := by simp
  refine wd_of hl (walk_rangeC (lo := lo) (c := c) (n := n)) (fun G H r j => trivial) fun i G H v H' hi r j y => ?_
  obtain ⟨rfl, hv⟩ := y
  refine ⟨G, .int (lo + (i : Int) * c), Xt.refl, j, by simp [hi], ?_⟩
  rw [hv]
  exact .int _
theorem wd_pair {Jt : It} {n : Nat} {Gd : Hp → Prop} {fx fy : Nat → Option V} {zs : List PyData} (hn : zs.length = n) (w : Walk Jt n Gd (YPair fx fy)) (hg : ∀ G H, Same G1 G → J p G H → Gd H)
    (h : ∀ i x y, i < n → fx i = some x → fy i = some y → ∃ d e, zs[i]? = some (.tuple [d, e]) ∧ Dp K G1 x d ∧ Dp K G1 y e) : WalkD K p (fun G2 _ => Same G1 G2) Jt zs := by
  subst hn
  refine ⟨⟨_, _, w, fun G H r j => hg G H r j, fun i G H v H' hi r j y => ?_⟩⟩
  obtain ⟨T, x, y, rfl, hT, rfl, hx, hy⟩ := y
  obtain ⟨d, e, hz, dx, dy⟩ := h i x y hi hx hy
  have x2 := Xt.laid (p := p) j (o := .tup [x, y]) hT
  exact ⟨_, _, x2, j.laid hT, hz, .tup (SqT.of upd_same) (.cons (dp_mono (r.trans x2.gg) d x dx) (.cons (dp_mono (r.trans x2.gg) e y dy) .nil))⟩
def enD (ds : List PyData) : List PyData := (ds.zipIdx).map fun q => .tuple [.int (q.2 : Nat), q.1]
theorem wd_enum (hs : SqL K G1 a xs) (ha : DpAll K G1 xs ds) : WalkD K p (fun G2 _ => Same G1 G2) (Ite K a) (enD ds) := by
  have hl := dpA_len ha
  refine wd_pair (by simp [enD, hl]) walk_enum (fun G H r j => (r.trans j.sub).seq hs) fun i x y hi hx hy => ?_
  cases hx
  obtain ⟨d, hd, dv⟩ := dpA_at ha hy
  refine ⟨.int (i : Nat), d, ?_, .int _, dv⟩
  simp [enD, hd]
def ziD (ds es : List PyData) : List PyData := (ds.zip es).map fun q => .tuple [q.1, q.2]
theorem wd_zipL (h1 : SqL K G1 a xs) (ha : DpAll K G1 xs ds) (h2 : SqL K G1 b ys) (hb : DpAll K G1 ys es) : WalkD K p (fun G2 _ => Same G1 G2) (Itz K a b) (ziD ds es) := by
  have l1 := dpA_len ha
  have l2 := dpA_len hb
  refine wd_pair (n := min xs.length ys.length) (by simp [ziD, l1, l2]) (walk_zip (xs := xs) (ys := ys) rfl) (fun G H r j => ⟨(r.trans j.sub).seq h1, (r.trans j.sub).seq h2⟩) fun i x y hi hx hy => ?_
  obtain ⟨d, hd, dv⟩ := dpA_at ha hx
  obtain ⟨d2, hd2, dv2⟩ := dpA_at hb hy
  refine ⟨d, d2, ?_, dv, dv2⟩
  simp [ziD, hd, hd2, List.zip, List.getElem?_zipWith]
theorem walk_zipT {n : Nat} (hn : n = min xs.length ys.length) : Walk (RZ.ItzT K a b) n (fun H => SqT K H a xs ∧ SqT K H b ys) (YPair (fun i => xs[i]?) (fun i => ys[i]?)) := by
  subst hn
  refine ⟨fun i H hi q => ?_, fun H q => ⟨xs, ys, q.1, q.2, by omega⟩, fun i H v H' _ q y => ?_⟩
  · exact ⟨xs, ys, xs[i]'(by omega), ys[i]'(by omega), q.1, q.2, List.getElem?_eq_getElem _, List.getElem?_eq_getElem _⟩
  · obtain ⟨T, x, z, h1, h2, h3, h4, h5⟩ := y
    exact ⟨T, x, z, h1, h2, h3, h4 xs q.1, h5 ys q.2⟩
theorem wd_zipT (h1 : SqT K G1 a xs) (ha : DpAll K G1 xs ds) (h2 : SqT K G1 b ys) (hb : DpAll K G1 ys es) : WalkD K p (fun G2 _ => Same G1 G2) (RZ.ItzT K a b) (ziD ds es) := by
  have l1 := dpA_len ha
  have l2 := dpA_len hb
  refine wd_pair (n := min xs.length ys.length) (by simp [ziD, l1, l2]) (walk_zipT (xs := xs) (ys := ys) rfl) (fun G H r j => ⟨sqT_mono (r.trans j.sub) h1, sqT_mono (r.trans j.sub) h2⟩) fun i x y hi hx hy => ?_
  obtain ⟨d, hd, dv⟩ := dpA_at ha hx
  obtain ⟨d2, hd2, dv2⟩ := dpA_at hb hy
  refine ⟨d, d2, ?_, dv, dv2⟩
  simp [ziD, hd, hd2, List.zip, List.getElem?_zipWith]
theorem wd_rev (hs : SqL K G1 a xs) (ha : DpAll K G1 xs ds) : WalkD K p (fun G2 _ => Same G1 G2) (Itv K a xs.length) ds.reverse := by
  have hl := dpA_len ha
  refine wd_of (by rw [List.length_reverse, ← hl]) (walk_rev (K := K) (a := a) (xs := xs)) (fun G H r j => (r.trans j.sub).seq hs) fun i G H v H' hi r j y => ?_
  obtain ⟨rfl, hv⟩ := y
  obtain ⟨d, hd, dv⟩ := dpA_at ha hv
  refine ⟨G, d, Xt.refl, j, ?_, dp_mono r d v dv⟩
  rw [List.getElem?_reverse (by rw [← hl]; exact hi), ← hl]
  exact hd
theorem walk_revT : Walk (RT.ItvT K a xs.length) xs.length (fun H => SqT K H a xs) (fun i H x H' => H' = H ∧ xs[xs.length - 1 - i]? = some x) :=
  ⟨fun i _ hi q => ⟨hi, xs, xs[xs.length - 1 - i]'(by omega), q, List.getElem?_eq_getElem _⟩, fun _ _ => Nat.le_refl _, fun _ _ _ _ _ q y => ⟨y.1, y.2 xs q⟩⟩
theorem wd_revT (hs : SqT K G1 a xs) (ha : DpAll K G1 xs ds) : WalkD K p (fun G2 _ => Same G1 G2) (RT.ItvT K a xs.length) ds.reverse := by
  have hl := dpA_len ha
  refine wd_of (by rw [List.length_reverse, ← hl]) (walk_revT (K := K) (a := a) (xs := xs)) (fun G H r j => sqT_mono (r.trans j.sub) hs) fun i G H v H' hi r j y => ?_
  obtain ⟨rfl, hv⟩ := y
  obtain ⟨d, hd, dv⟩ := dpA_at ha hv
  refine ⟨G, d, Xt.refl, j, ?_, dp_mono r d v dv⟩
  rw [List.getElem?_reverse (by rw [← hl]; exact hi), ← hl]
  exact hd
end
end Rim

/-! RimI: what loops and comprehensions go over; comprehensions; statements. -/
namespace Rim
open PySem PySem.Spec L2
section
variable {X : Cx} {p : Option Addr} {tg e a b c : Expr} {es : List Expr} {te ta tb tc : TE} {fe fa fb fc : WE} {tA : TA} {fA : WL} {pos px : Pos} {tt tu : TT} {ft fu : WB} {gM : WL}

/-! ### iterables -/
def iSeq (K : PySem.W.Frag) (te : TE) : TI := fun σ H R => te σ H fun v H1 => (∃ a, v = .ref a ∧ (∃ xs, SqL K H1 a xs) ∧ R (Itl K a) H1) ∨ ∃ a, v = .ref a ∧ (∃ xs, SqT K H1 a xs) ∧ R (Itt K a) H1
theorem pi_seq (h : PE X e te) : PI X tg e (iSeq X.K te) := by
  refine ⟨fun pins s σ H R I q => ?_⟩
  refine thn (h.run pins s σ H _ I q) fun v s1 ⟨x, H1, I1, r1, q1⟩ => ?_
  rcases q1 with ⟨a, e1, ⟨xs, hq⟩, q⟩ | ⟨a, e1, ⟨xs, hq⟩, q⟩
  · subst e1
    cases r1
    obtain ⟨its, rv, p1, hz⟩ := I1.list hq
    exact wpAny_pyIter_list p1.isList (pi_one (tk := s1.toks) I1 _ (turn_list a _) ⟨_, Heap.get?_push_size _ rfl, rfl, rfl⟩ q)
  · subst e1
    cases r1
    obtain ⟨its, rv, p1, hz⟩ := I1.tuple hq
    exact wpAny_pyIter_tuple p1 (pi_one (tk := s1.toks) I1 _ (turn_tuple a _) ⟨_, Heap.get?_push_size _ rfl, rfl, rfl⟩ q)
def seD (d : PyData) (Ψ : List PyData → Prop) : Prop := match d with
  | .list ds => Ψ ds
  | .tuple ds => Ψ ds
  | _ => False
def vSeq (f : WE) : WL := fun E Ψ => f E fun d => seD d Ψ
theorem di_seq (h : DE X p e te fe) : DI X p tg e (iSeq X.K te) (vSeq fe) := by
  refine ⟨pi_seq h.py, fun E Ψ q => ?_⟩
  intro H0 G H σ j en R z
  refine h.ok E _ q H0 G H σ j en _ fun v d G1 H1 x1 j1 dv hd => ?_
  cases d with
  | list ds =>
    obtain ⟨a, xs, rfl, hs, ha⟩ := dp_lst dv
    exact Or.inl ⟨a, rfl, ⟨xs, j1.sub.seq hs⟩, z _ ds G1 H1 x1 j1 (wd_list hs ha) hd⟩
  | tuple ds =>
    obtain ⟨a, xs, rfl, hs, ha⟩ := dp_tup dv
    exact Or.inr ⟨a, rfl, ⟨xs, sqT_mono j1.sub hs⟩, z _ ds G1 H1 x1 j1 (wd_tup hs ha) hd⟩
  | _ => exact hd.elim
/-- a list of one's own, in a comprehension -/
def vSeqV (i : Nat) : WL := fun E Ψ => match geE E i with
  | .m ds => Ψ ds
  | .d d => seD d Ψ
  | _ => False
theorem dix_var {i : Nat} {x : Str} (hN : X.N[i]? = some x) (hv : Vis X.env.scope x) (hd : (x == ("__debug__" : Str)) = false := by decide) (hcd : (x == ("__classdict__" : Str)) = false := by decide) :
    DIx X p tg (.Name x pos) (iSeq X.K (tVar i)) (vSeqV i) := by
  refine ⟨pi_seq (pe_var hN hv hd hcd), fun E Ψ q => ?_⟩
  unfold vSeqV at q
  split at q
  · rename_i ds w
    intro H0 G H σ j en R z
    obtain ⟨l, vs, h1, h2, h3, h4, h5, h6⟩ := en.own (geE_ok w Sl.noConfusion)
    refine ⟨_, h1, Or.inl ⟨l, rfl, ⟨vs, SqL.of h2⟩, z _ ds G H Xt.refl j ?_ q⟩⟩
    have hl := dpA_len h3
    refine ⟨⟨_, _, hl ▸ walk_list (K := X.K) (a := l) (xs := vs), fun G2 H2 r j2 => SqL.of (r.hh l _ h5 h2), fun k G2 H2 v H3 hi r j2 y => ?_⟩⟩
    obtain ⟨rfl, hv⟩ := y
    obtain ⟨d, hd, dv⟩ := dpA_at h3 hv
    exact ⟨G2, d, Xt.refl, j2, hd, dp_mono r.gg d v dv⟩
  · rename_i d w
    exact ((di_seq (X := X) (p := p) (tg := tg) (de_var (pos := pos) hN hv hd hcd)).ok E Ψ (by
      show vVar i E _
      unfold vVar
      rw [w]
      exact q)).x
  · exact q.elim
def r1D (ds : List PyData) (Ψ : List PyData → Prop) : Prop := match ds with
  | [.int n] => (-(2 ^ 62) ≤ n ∧ n < 2 ^ 62) ∧ Ψ (rgD 0 n.toNat)
  | _ => False
def vR1 (f : WL) : WL := fun E Ψ => f E fun ds => r1D ds Ψ
theorem di_range1 (hg : Gl X "range") (hm : X.mg "range" = none) (ha : DA X p [a] tA fA) (hs : starEach [a] X.env = [(false, eval a X.env)] := by rfl) : DI X p tg (.Call (.Name "range" px) [a] [] pos) (iRng1 tA) (vR1 fA) := by
  refine ⟨pi_range1 hg hm ha.py hs, fun E Ψ q => ?_⟩
  intro H0 G H σ j en R z
  refine ha.ok E _ q H0 G H σ j en _ fun vs ds G1 H1 x1 j1 dv hd => ?_
  have hd2 := hd.2
  unfold r1D at hd2
  split at hd2
  · rename_i n
    cases dv with
    | cons d1 dr =>
      cases dr
      rw [dp_int d1]
      exact ⟨n, rfl, hd2.1.1, hd2.1.2, z _ _ G1 H1 x1 j1 wd_range hd2.2⟩
  · exact hd2.elim
def r2D (ds : List PyData) (Ψ : List PyData → Prop) : Prop := match ds with
  | [.int a, .int b] => (-(2 ^ 62) ≤ a ∧ a < 2 ^ 62 ∧ -(2 ^ 62) ≤ b ∧ b < 2 ^ 62) ∧ Ψ (rgD a (b - a).toNat)
  | _ => False
def vR2 (f : WL) : WL := fun E Ψ => f E fun ds => r2D ds Ψ
theorem di_range2 (hg : Gl X "range") (hm : X.mg "range" = none) (ha : DA X p [a, b] tA fA) (hs : starEach [a, b] X.env = [(false, eval a X.env), (false, eval b X.env)] := by rfl) (hs2 : starEach [b] X.env = [(false, eval b X.env)] := by rfl) :
    DI X p tg (.Call (.Name "range" px) [a, b] [] pos) (iRng2 tA) (vR2 fA) := by
  refine ⟨pi_range2 hg hm ha.py hs hs2, fun E Ψ q => ?_⟩
  intro H0 G H σ j en R z
  refine ha.ok E _ q H0 G H σ j en _ fun vs ds G1 H1 x1 j1 dv hd => ?_
  have hd2 := hd.2
  unfold r2D at hd2
  split at hd2
  · rename_i n m
    cases dv with
    | cons d1 dr =>
      cases dr with
      | cons d2 dr =>
        cases dr
        rw [dp_int d1, dp_int d2]
        exact ⟨n, m, rfl, hd2.1, z _ _ G1 H1 x1 j1 wd_range hd2.2⟩
  · exact hd2.elim
def enumD (ds : List PyData) (Ψ : List PyData → Prop) : Prop := match ds with
  | [.list ds] => Ψ (enD ds)
  | _ => False
def vEnum (f : WL) : WL := fun E Ψ => f E fun ds => enumD ds Ψ
theorem di_enum {elts : List Expr} {kk : Nat} {tpos : Pos} (hg : Gl X "enumerate") (hm : X.mg "enumerate" = none) (ha : DA X p [e] tA fA) (hs : starEach [e] X.env = [(false, eval e X.env)] := by rfl) :
    DI X p (.Tuple elts kk tpos) (.Call (.Name "enumerate" px) [e] [] pos) (iEnum X.K tA) (vEnum fA) := by
  refine ⟨pi_enum hg hm ha.py hs, fun E Ψ q => ?_⟩
  intro H0 G H σ j en R z
  refine ha.ok E _ q H0 G H σ j en _ fun vs ds G1 H1 x1 j1 dv hd => ?_
  have hd2 := hd.2
  unfold enumD at hd2
  split at hd2
  · rename_i ds
    cases dv with
    | cons d1 dr =>
      cases dr
      obtain ⟨a, xs, rfl, hs, ha⟩ := dp_lst d1
      exact ⟨a, xs, rfl, j1.sub.seq hs, z _ _ G1 H1 x1 j1 (wd_enum hs ha) hd2⟩
  · exact hd2.elim
def zipD (ds : List PyData) (Ψ : List PyData → Prop) : Prop := match ds with
  | [.list a, .list b] => Ψ (ziD a b)
  | [.tuple a, .tuple b] => Ψ (ziD a b)
  | _ => False
def vZip (f : WL) : WL := fun E Ψ => f E fun ds => zipD ds Ψ
theorem di_zip {e2 : Expr} {elts : List Expr} {kk : Nat} {tpos : Pos} (hg : Gl X "zip") (hm : X.mg "zip" = none) (ha : DA X p [e, e2] tA fA)
    (hs : starEach [e, e2] X.env = (false, eval e X.env) :: starEach [e2] X.env := by rfl) (hpl : (backTo pos (starEach [e2] X.env)).any (·.1) = false := by rfl) :
    DI X p (.Tuple elts kk tpos) (.Call (.Name "zip" px) [e, e2] [] pos) (RZ.iZipA X.K tA) (vZip fA) := by
  refine ⟨RZ.pi_zipA hg hm ha.py hs hpl, fun E Ψ q => ?_⟩
  intro H0 G H σ j en R z
  refine ha.ok E _ q H0 G H σ j en _ fun vs ds G1 H1 x1 j1 dv hd => ?_
  have hd2 := hd.2
  unfold zipD at hd2
  split at hd2
  · cases dv with
    | cons d1 dr =>
      cases dr with
      | cons d2 dr =>
        cases dr
        obtain ⟨a, xs, rfl, hs, ha⟩ := dp_lst d1
        obtain ⟨b, ys, rfl, hs2, hb⟩ := dp_lst d2
        exact ⟨a, b, xs, ys, rfl, Or.inl ⟨j1.sub.seq hs, j1.sub.seq hs2, z _ _ G1 H1 x1 j1 (wd_zipL hs ha hs2 hb) hd2⟩⟩
  · cases dv with
    | cons d1 dr =>
      cases dr with
      | cons d2 dr =>
        cases dr
        obtain ⟨a, xs, rfl, hs, ha⟩ := dp_tup d1
        obtain ⟨b, ys, rfl, hs2, hb⟩ := dp_tup d2
        exact ⟨a, b, xs, ys, rfl, Or.inr ⟨sqT_mono j1.sub hs, sqT_mono j1.sub hs2, z _ _ G1 H1 x1 j1 (wd_zipT hs ha hs2 hb) hd2⟩⟩
  · exact hd2.elim
def vRev (f : WE) : WL := fun E Ψ => f E fun d => seD d fun ds => Ψ ds.reverse
theorem di_rev (hg : Gl X "reversed") (hm : X.mg "reversed" = none) (h : DE X p e te fe) (hs : starEach [e] X.env = (false, eval e X.env) :: starEach [] X.env := by rfl) :
    DI X p tg (.Call (.Name "reversed" px) [e] [] pos) (RT.iRevA X.K te) (vRev fe) := by
  refine ⟨RT.pi_revA hg hm h.py hs, fun E Ψ q => ?_⟩
  intro H0 G H σ j en R z
  refine h.ok E _ q H0 G H σ j en _ fun v d G1 H1 x1 j1 dv hd => ?_
  cases d with
  | list ds =>
    obtain ⟨a, xs, rfl, hs, ha⟩ := dp_lst dv
    exact ⟨a, xs, rfl, Or.inl ⟨j1.sub.seq hs, z _ _ G1 H1 x1 j1 (wd_rev hs ha) hd⟩⟩
  | tuple ds =>
    obtain ⟨a, xs, rfl, hs, ha⟩ := dp_tup dv
    exact ⟨a, xs, rfl, Or.inr ⟨sqT_mono j1.sub hs, z _ _ G1 H1 x1 j1 (wd_revT hs ha) hd⟩⟩
  | _ => exact hd.elim

/-! ### comprehensions -/
def lcW (turn : PyData → (Option PyData → Prop) → Prop) : List PyData → List PyData → (List PyData → Prop) → Prop
  | [], acc, Ψ => Ψ acc
  | x :: xs, acc, Ψ => turn x fun o => lcW turn xs (acc ++ o.toList) Ψ
def clE : Ev → Nat → Ev
  | [], _ => []
  | _ :: E, 0 => .un :: E
  | x :: E, i + 1 => x :: clE E i
def cleE (E : Ev) : List Nat → Ev
  | [] => E
  | v :: vs => clE (cleE E vs) v
theorem clE_eq : ∀ {E : Ev} {i : Nat}, clE E i = E.set i .un
  | [], _ => rfl
  | _ :: _, 0 => rfl
  | x :: E, i + 1 => congrArg (x :: ·) (clE_eq (E := E))
theorem cleE_eq {E : Ev} : ∀ {vs : List Nat}, cleE E vs = wipeE E vs
  | [] => rfl
  | v :: vs => by
    show clE (cleE E vs) v = (wipeE E vs).set v .un
    rw [clE_eq, cleE_eq]
def vTurn (vs : List Nat) (g : WG) (tt : WB) (el : WE) (E : Ev) : PyData → (Option PyData → Prop) → Prop := fun x Kt =>
  g x (cleE E vs) fun E1 => tt E1 fun b => ifB b (el E1 fun y => Kt (some y)) (Kt none)
def vLc (vs : List Nat) (it : WL) (g : WG) (tt : WB) (el : WE) : WL := fun E Ψ => it E fun xs => xs.length ≤ sizeLine ∧ lcW (vTurn vs g tt el E) xs [] Ψ
/-- a test without words -/
def vYes : WB := fun _ Θ => Θ true
structure DTs (X : Cx) (p : Option Addr) (es : List Expr) (t : TT) (f : WB) : Prop where
  py : PTs X es t
  ok : ∀ E Θ, f E Θ → WT X.K p E t Θ
theorem dts_nil : DTs X p [] tYes vYes := ⟨pts_nil, fun _ _ h => WT_yes h⟩
theorem dts_one (h : DT X p c tt ft) : DTs X p [c] tt ft := ⟨pts_one h.py, h.ok⟩
theorem dm_lc {elt iter : Expr} {ifs : List Expr} {scope : Scope} {own : List (Str × Nat)} {wi : TI} {g : TG} {vs : List Nat} {fi : WL} {fg : WG} (s0 : Shared) (hc : X.calm = true) (hN : X.N.Nodup) (hi : DIx X p tg iter wi fi) (ok : BlkOk X.N X.env.scope scope own) (hvs : vs = own.map (·.2))
    (hg : ∀ (s : Shared) (H : Hp) (C : Addr) (cl : List (Str × Addr)) (fp : List Addr), DV (X.blk s H scope (compEnvC scope cl C X.env) fp) p tg g vs fg) (ht : ∀ (s : Shared) (H : Hp) (C : Addr) (cl : List (Str × Addr)) (fp : List Addr), DTs (X.blk s H scope (compEnvC scope cl C X.env) fp) p ifs tt ft)
    (he : ∀ (s : Shared) (H : Hp) (C : Addr) (cl : List (Str × Addr)) (fp : List Addr), DE (X.blk s H scope (compEnvC scope cl C X.env) fp) p elt te fe) (hs : ∀ x, foldedSetIterable iter X.env x = pure x := by intro _; rfl) :
    DM X p (.ListComp elt [⟨tg, iter, ifs, 0⟩] scope pos) (tLc wi g tt te (own.map (·.2))) (vLc vs fi fg ft fe) := by
  subst hvs
  refine ⟨pe_lc hc hN hi.py ok (fun s H C cl fp => (hg s H C cl fp).py) (fun s H C cl fp => (ht s H C cl fp).py) (fun s H C cl fp => (he s H C cl fp).py) hs, fun E Ψ q => ?_⟩
  intro H0 G H σ j en Q z
  refine hi.ok E _ q H0 G H σ j en _ fun Jt xs G1 H1 x1 j1 w hx => ?_
  obtain ⟨hz, hl⟩ := hx
  intro D hD
  obtain ⟨Gd, Y, w1, w2, w3⟩ := w.ex
  refine lc_it w1 (fun k H' => Grow X.K p G1 H1 D k (fun acc => lcW (vTurn (own.map (·.2)) fg ft fe E) (xs.drop k) acc Ψ) H') (grow_start hD j1 hl) (fun k H' _ q => ?_) (fun k v H' H2 hk q y => ?_) fun H' q => ?_
  · obtain ⟨G', us, acc, x', j', _⟩ := q
    exact w2 G' H' x' j'
  · have q0 := q
    obtain ⟨G', us, acc, x', j', h1, h2, h3, h4, h5⟩ := q
    obtain ⟨G2, d, x2, j2, hd, dv⟩ := w3 k G' H' v H2 hk x' j' y
    have e5 : xs.drop k = d :: xs.drop (k + 1) := by
      rw [List.drop_eq_getElem_cons hk]
      congr 1
      exact Option.some.inj ((List.getElem?_eq_getElem hk).symm.trans hd)
    rw [e5] at h5
    have h6 : fg d (cleE E (own.map (·.2))) fun E1 => ft E1 fun b => ifB b (fe E1 fun y => lcW (vTurn (own.map (·.2)) fg ft fe E) (xs.drop (k + 1)) (acc ++ [y]) Ψ) (lcW (vTurn (own.map (·.2)) fg ft fe E) (xs.drop (k + 1)) (acc ++ []) Ψ) := h5
    have x12 := x'.trans x2
    have e2 := en.mono (x1.trans x12)
    have ew : EnvOk X.K p H0 G2 H2 (wipe σ (own.map (·.2))) (cleE E (own.map (·.2))) := by
      rw [cleE_eq]
      exact env_wipe e2 _
    have blk := ((hg s0 H 0 [] []).ok d (cleE E (own.map (·.2))) _ h6) H0 G2 H2 _ v j2 ew dv
    refine blk _ fun σ2 E2 e3 k2 l2 a2 => ⟨wipe_same l2 a2, ?_⟩
    refine (ht s0 H 0 [] []).ok E2 _ k2 H0 G2 H2 σ2 j2 e3 _ fun b G3 H3 x3 j3 hb => ?_
    have hD2 := x2.hh D _ (j1.ne hD) h1
    have hD3 := x3.hh D _ (j1.ne hD) hD2
    have hG2 := x2.fr D (j1.ne hD) (by rw [h1]; exact Option.some_ne_none _) h2
    have hG3 := x3.fr D (j1.ne hD) (by rw [hD2]; exact Option.some_ne_none _) hG2
    have g3 := x2.gg.trans x3.gg
    cases b with
    | false => exact iteF ⟨G3, us, acc, x12.trans x3, j3, hD3, hG3, dpA_mono g3 acc us h3, by omega, by
        have hb2 : lcW (vTurn (own.map (·.2)) fg ft fe E) (xs.drop (k + 1)) (acc ++ []) Ψ := hb
        rw [List.append_nil] at hb2
        exact hb2⟩
    | true =>
      refine iteT ((he s0 H 0 [] []).ok E2 _ hb H0 G3 H3 σ2 j3 (e3.mono x3) _ fun y d2 G4 H4 x4 j4 dy hd2 => ?_)
      have hD4 := x4.hh D _ (j1.ne hD) hD3
      have hG4 := x4.fr D (j1.ne hD) (by rw [hD3]; exact Option.some_ne_none _) hG3
      have d4 := dpA_mono (g3.trans x4.gg) acc us h3
      refine ⟨us, hD4, by rw [dpA_len d4]; omega, G4, us ++ [y], acc ++ [d2], ((x12.trans x3).trans x4).chg hD, j4.made hG4 (j1.ne hD), upd_same, hG4, dpA_append d4 (.cons dy .nil), ?_, hd2⟩
      rw [List.length_append, List.length_singleton]
      omega
  · obtain ⟨G', us, acc, x', j', hD', hG', da, hl2, hi2⟩ := q
    have hn : H D = none := by
      cases z2 : H D with
      | none => rfl
      | some o =>
        rw [x1.hh D o (j1.ne hD) z2] at hD
        cases hD
    rw [List.drop_length] at hi2
    exact z D us acc G' H' (x1.trans x') j' hn hD' hG' da hi2
end
end Rim

/-! RimJ: statements by what they come to. -/
namespace Rim
open PySem PySem.Spec PyProof.Rows L2
section
variable {K : PySem.W.Frag} {p : Option Addr} {E : Ev} {te : TE} {N B C : Ev → Prop} {R : PyData → Prop} {t u : TS} {tt : TT}
theorem S_asgM2 {i : Nat} (h : WM K p E te fun ds => puE E i (.m ds) N) : S K p E (tAsg te (gName i)) N R B C := fun G0 H0 G H σ x j e D q =>
  h H0 G H σ j e _ fun l vs ds G' H' x' j' hn hl hg dv hd => by
    obtain ⟨hi, hd⟩ := puE_ok hd
    refine q.nx _ _ G' H' (x.trans x') j' ((e.mono x').setM (by rw [e.len]; exact hi) (fun k es m h1 h2 => ?_) hl dv hg (j.ne hn) (x.fresh j hn)) hd
    obtain ⟨l', vs', z1, z2, _⟩ := e.own h1
    rw [z1] at h2
    cases h2
    exact ne_of_none z2 hn
def two (ds : List PyData) (k : PyData → PyData → Prop) : Prop := match ds with
  | [a, b] => k a b
  | _ => False
def three (ds : List PyData) (k : PyData → PyData → PyData → Prop) : Prop := match ds with
  | [a, b, c] => k a b c
  | _ => False
theorem S_par2 {i k : Nat} {tr : TA} (h : WA K p E tr fun ds => two ds fun a b => puE E i (.d a) fun E1 => puE E1 k (.d b) N) : S K p E (tPar i k tr) N R B C := fun G0 H0 G H σ x j e D q =>
  h H0 G H σ j e _ fun vs ds G' H' x' j' dv hd => by
    have hd : two ds fun a b => puE E i (.d a) fun E1 => puE E1 k (.d b) N := hd
    unfold two at hd
    split at hd
    · cases dv with
      | cons da dv =>
        cases dv with
        | cons db dv =>
          cases dv
          obtain ⟨h1, hd⟩ := puE_ok hd
          obtain ⟨h2, hd⟩ := puE_ok hd
          refine ⟨_, _, rfl, q.nx _ _ G' H' (x.trans x') j' (((e.mono x').setD (by rw [e.len]; exact h1) da).setD ?_ db) hd⟩
          rw [List.length_set, e.len]
          rw [List.length_set] at h2
          exact h2
    · exact hd.elim
theorem S_par32 {i k m : Nat} {tr : TA} (h : WA K p E tr fun ds => three ds fun a b c => puE E i (.d a) fun E1 => puE E1 k (.d b) fun E2 => puE E2 m (.d c) N) : S K p E (tPar3 i k m tr) N R B C := fun G0 H0 G H σ x j e D q =>
  h H0 G H σ j e _ fun vs ds G' H' x' j' dv hd => by
    have hd : three ds fun a b c => puE E i (.d a) fun E1 => puE E1 k (.d b) fun E2 => puE E2 m (.d c) N := hd
    unfold three at hd
    split at hd
    · cases dv with
      | cons da dv =>
        cases dv with
        | cons db dv =>
          cases dv with
          | cons dc dv =>
            cases dv
            obtain ⟨h1, hd⟩ := puE_ok hd
            obtain ⟨h2, hd⟩ := puE_ok hd
            obtain ⟨h3, hd⟩ := puE_ok hd
            rw [List.length_set] at h2
            rw [List.length_set, List.length_set] at h3
            refine ⟨_, _, _, rfl, q.nx _ _ G' H' (x.trans x') j' ((((e.mono x').setD (by rw [e.len]; exact h1) da).setD ?_ db).setD ?_ dc) hd⟩
            · rw [List.length_set, e.len]
              exact h2
            · rw [List.length_set, List.length_set, e.len]
              exact h3
    · exact hd.elim
end
section
variable {X : Cx} {p : Option Addr} {tg e a b c : Expr} {es : List Expr} {te ta tb tc : TE} {fe fa fb fc : WE} {tA : TA} {fA : WL} {pos px : Pos} {tt tu : TT} {ft fu : WB} {gM : WL}
  {s : Stmt} {ss : List Stmt} {ts us : TS} {fs gs : WS}
def vNext : WS := fun E P => P.N E
def vSeqS (f g : WS) : WS := fun E P => f E ⟨fun E' => g E' P, P.R, P.B, P.C⟩
theorem dss_nil : DSs X p [] tNext vNext := ⟨pss_nil, fun _ _ h => S_next h⟩
theorem dss_one (h : DS X p s ts fs) : DSs X p [s] ts fs := ⟨pss_one h.py, h.ok⟩
theorem dss_cons (h : DS X p s ts fs) (k : DSs X p ss us gs) : DSs X p (s :: ss) (tSeq ts us) (vSeqS fs gs) :=
  ⟨pss_cons h.py k.py, fun E P q => S_seq ((h.ok E _ q).imp (fun E' z => k.ok E' P z) (fun _ z => z) (fun _ z => z) fun _ z => z)⟩
/-- a list of one's own is one's own no longer -/
def vFroze (i : Nat) (f : WS) : WS := fun E P => match geE E i with
  | .m ds => f (moE E i ds) P
  | _ => f E P
theorem dss_froze (i : Nat) (h : DSs X p ss us gs) : DSs X p ss us (vFroze i gs) := by
  refine ⟨h.py, fun E P q => ?_⟩
  unfold vFroze at q
  split at q
  · rename_i ds w
    rw [moE_eq] at q
    exact S_froze (geE_ok w Sl.noConfusion) (h.ok _ P q)
  · exact h.ok E P q
def vAsg (i : Nat) (f : WE) : WS := fun E P => f E fun d => puE E i (.d d) P.N
theorem S_set2 {K : PySem.W.Frag} {E : Ev} {N B C : Ev → Prop} {R : PyData → Prop} {i : Nat} (h : W K p E te fun d => puE E i (.d d) N) : S K p E (tAsg te (gName i)) N R B C :=
  S_asgG (h.imp fun d hd => TG_name (puE_ok hd).1 (puE_ok hd).2)
theorem ds_set {i : Nat} {x : Str} {pos' : Pos} (hN : X.N.Nodup) (hi : X.N[i]? = some x) (hx : Loc X.env.scope x) (he : DE X p e te fe) (hs : swapsWith e (some (.Name x pos')) pos.line X.env = pure false := by rfl)
    (hf : X.fn x = true ∨ X.env.scope.names.lookup x = some .local := by first | exact .inl rfl | exact .inr rfl | assumption) : DS X p (.Assign [.Name x pos'] e pos) (tAsg te (gName i)) (vAsg i fe) :=
  ⟨ps_set hN hi hx he.py hs hf, fun E P q => S_set2 (he.ok E _ q)⟩
def vAsgM (i : Nat) (f : WL) : WS := fun E P => f E fun ds => puE E i (.m ds) P.N
theorem ds_setM {i : Nat} {x : Str} {pos' : Pos} (hN : X.N.Nodup) (hi : X.N[i]? = some x) (hx : Loc X.env.scope x) (he : DM X p e te gM) (hs : swapsWith e (some (.Name x pos')) pos.line X.env = pure false := by rfl)
    (hf : X.fn x = true ∨ X.env.scope.names.lookup x = some .local := by first | exact .inl rfl | exact .inr rfl | assumption) : DS X p (.Assign [.Name x pos'] e pos) (tAsg te (gName i)) (vAsgM i gM) :=
  ⟨ps_set hN hi hx he.py hs hf, fun E P q => S_asgM2 (he.ok E _ q)⟩
/-- y = [..], the comprehension's own store -/
structure DLc (X : Cx) (p : Option Addr) (s : Stmt) (i : Nat) (te : TE) (f : WL) : Prop where
  py : PS X s (tAsg te (gName i))
  ok : ∀ E Ψ, f E Ψ → WM X.K p E te Ψ
theorem ds_lc {i : Nat} (h : DLc X p s i te gM) : DS X p s (tAsg te (gName i)) (vAsg i (vOf gM)) := ⟨h.py, fun E P q => S_set2 (W_of_WM (h.ok E _ q))⟩
theorem ds_lcM {i : Nat} (h : DLc X p s i te gM) : DS X p s (tAsg te (gName i)) (vAsgM i gM) := ⟨h.py, fun E P q => S_asgM2 (h.ok E _ q)⟩
theorem dl_lc {elt iter : Expr} {ifs : List Expr} {scope : Scope} {own : List (Str × Nat)} {wi : TI} {g : TG} {vs : List Nat} {fi : WL} {fg : WG} {i : Nat} {y : Str} {py spos : Pos} (s0 : Shared) (hc : X.calm = true) (hN : X.N.Nodup)
    (hy : X.N[i]? = some y) (hyl : X.env.scope.names.lookup y = some .local) (hsw : swapsWith (.ListComp elt [⟨tg, iter, ifs, 0⟩] scope pos) (some (.Name y py)) spos.line X.env = pure true)
    (hi : DIx X p tg iter wi fi) (ok : BlkOk X.N X.env.scope scope own) (hvs : vs = own.map (·.2))
    (hg : ∀ (s : Shared) (H : Hp) (C : Addr) (cl : List (Str × Addr)) (fp : List Addr), DV (X.blk s H scope (compEnvC scope cl C X.env) fp) p tg g vs fg) (ht : ∀ (s : Shared) (H : Hp) (C : Addr) (cl : List (Str × Addr)) (fp : List Addr), DTs (X.blk s H scope (compEnvC scope cl C X.env) fp) p ifs tt ft)
    (he : ∀ (s : Shared) (H : Hp) (C : Addr) (cl : List (Str × Addr)) (fp : List Addr), DE (X.blk s H scope (compEnvC scope cl C X.env) fp) p elt te fe) (hs : ∀ x, foldedSetIterable iter X.env x = pure x := by intro _; rfl) :
    DLc X p (.Assign [.Name y py] (.ListComp elt [⟨tg, iter, ifs, 0⟩] scope pos) spos) i (tLc wi g tt te (own.map (·.2))) (vLc vs fi fg ft fe) :=
  ⟨ps_setLc hc hN hy hyl hsw hi.py ok (fun s H C cl fp => (hg s H C cl fp).py) (fun s H C cl fp => (ht s H C cl fp).py) (fun s H C cl fp => (he s H C cl fp).py) hs,
    (dm_lc s0 hc hN hi ok hvs hg ht he hs (pos := pos)).ok⟩
theorem ds_lcA {elt iter : Expr} {ifs : List Expr} {scope : Scope} {own : List (Str × Nat)} {wi : TI} {g : TG} {vs : List Nat} {fi : WL} {fg : WG} {i : Nat} {y : Str} {py spos : Pos} (s0 : Shared) (hc : X.calm = true) (hN : X.N.Nodup)
    (hy : X.N[i]? = some y) (hyl : X.env.scope.names.lookup y = some .local) (hsw : swapsWith (.ListComp elt [⟨tg, iter, ifs, 0⟩] scope pos) (some (.Name y py)) spos.line X.env = pure true)
    (hi : DIx X p tg iter wi fi) (ok : BlkOk X.N X.env.scope scope own) (hvs : vs = own.map (·.2))
    (hg : ∀ (s : Shared) (H : Hp) (C : Addr) (cl : List (Str × Addr)) (fp : List Addr), DV (X.blk s H scope (compEnvC scope cl C X.env) fp) p tg g vs fg) (ht : ∀ (s : Shared) (H : Hp) (C : Addr) (cl : List (Str × Addr)) (fp : List Addr), DTs (X.blk s H scope (compEnvC scope cl C X.env) fp) p ifs tt ft)
    (he : ∀ (s : Shared) (H : Hp) (C : Addr) (cl : List (Str × Addr)) (fp : List Addr), DE (X.blk s H scope (compEnvC scope cl C X.env) fp) p elt te fe) (hs : ∀ x, foldedSetIterable iter X.env x = pure x := by intro _; rfl) :
    DS X p (.Assign [.Name y py] (.ListComp elt [⟨tg, iter, ifs, 0⟩] scope pos) spos) (tAsg (tLc wi g tt te (own.map (·.2))) (gName i)) (vAsg i (vOf (vLc vs fi fg ft fe))) :=
  ds_lc (dl_lc s0 hc hN hy hyl hsw hi ok hvs hg ht he hs)
theorem ds_lcB {elt iter : Expr} {ifs : List Expr} {scope : Scope} {own : List (Str × Nat)} {wi : TI} {g : TG} {vs : List Nat} {fi : WL} {fg : WG} {i : Nat} {y : Str} {py spos : Pos} (s0 : Shared) (hc : X.calm = true) (hN : X.N.Nodup)
    (hy : X.N[i]? = some y) (hyl : X.env.scope.names.lookup y = some .local) (hsw : swapsWith (.ListComp elt [⟨tg, iter, ifs, 0⟩] scope pos) (some (.Name y py)) spos.line X.env = pure true)
    (hi : DIx X p tg iter wi fi) (ok : BlkOk X.N X.env.scope scope own) (hvs : vs = own.map (·.2))
    (hg : ∀ (s : Shared) (H : Hp) (C : Addr) (cl : List (Str × Addr)) (fp : List Addr), DV (X.blk s H scope (compEnvC scope cl C X.env) fp) p tg g vs fg) (ht : ∀ (s : Shared) (H : Hp) (C : Addr) (cl : List (Str × Addr)) (fp : List Addr), DTs (X.blk s H scope (compEnvC scope cl C X.env) fp) p ifs tt ft)
    (he : ∀ (s : Shared) (H : Hp) (C : Addr) (cl : List (Str × Addr)) (fp : List Addr), DE (X.blk s H scope (compEnvC scope cl C X.env) fp) p elt te fe) (hs : ∀ x, foldedSetIterable iter X.env x = pure x := by intro _; rfl) :
    DS X p (.Assign [.Name y py] (.ListComp elt [⟨tg, iter, ifs, 0⟩] scope pos) spos) (tAsg (tLc wi g tt te (own.map (·.2))) (gName i)) (vAsgM i (vLc vs fi fg ft fe)) :=
  ds_lcM (dl_lc s0 hc hN hy hyl hsw hi ok hvs hg ht he hs)
def vAsgG (f : WE) (g : WG) : WS := fun E P => f E fun d => g d E P.N
theorem ds_asg {g : TG} {vs : List Nat} {fg : WG} (he : DE X p e te fe) (hg : DV X p tg g vs fg) (hs : swapsWithSole [tg] e pos.line X.env = pure false := by rfl) (hw : swappedStores [tg] e X.env = pure none := by rfl)
    (h1 : (assignEach [tg] X.env).map (·.2) = [assign tg X.env] := by rfl) : DS X p (.Assign [tg] e pos) (tAsg te g) (vAsgG fe fg) :=
  ⟨ps_asg he.py hg.py hs hw h1, fun E P q => S_asgG ((he.ok E _ q).imp fun d hd => hg.tg hd)⟩
def vPar (i k : Nat) (f : WL) : WS := fun E P => f E fun ds => two ds fun a b => puE E i (.d a) fun E1 => puE E1 k (.d b) P.N
theorem ds_par {i j : Nat} {x y : Str} {px py pt : Pos} {kt k2 pt2} (hc : X.calm = true) (hN : X.N.Nodup) (hi : X.N[i]? = some x) (hj : X.N[j]? = some y) (hij : i ≠ j)
    (hx : X.env.scope.names.lookup x = some .local) (hy : X.env.scope.names.lookup y = some .local) (ha : DA X p [a, b] tA fA)
    (hw : swappedStores [.Tuple [.Name x px, .Name y py] kt pt] (.Tuple [a, b] k2 pt2) X.env = pure (some [x, y]))
    (hs : swapsWithSole [.Tuple [.Name x px, .Name y py] kt pt] (.Tuple [a, b] k2 pt2) pos.line X.env = pure false := by rfl) :
    DS X p (.Assign [.Tuple [.Name x px, .Name y py] kt pt] (.Tuple [a, b] k2 pt2) pos) (tPar i j tA) (vPar i j fA) :=
  ⟨ps_par hc hN hi hj hij hx hy ha.py hw hs, fun E P q => S_par2 ((ha.ok E _ q).imp fun ds hd => hd.2)⟩
def vPar3 (i k m : Nat) (f : WL) : WS := fun E P => f E fun ds => three ds fun a b c => puE E i (.d a) fun E1 => puE E1 k (.d b) fun E2 => puE E2 m (.d c) P.N
theorem ds_par3 {i j l : Nat} {x y z : Str} {px py pz pt : Pos} {kt k2 pt2} (hc : X.calm = true) (hN : X.N.Nodup) (hi : X.N[i]? = some x) (hj : X.N[j]? = some y) (hl : X.N[l]? = some z) (hij : i ≠ j) (hil : i ≠ l) (hjl : j ≠ l)
    (hx : X.env.scope.names.lookup x = some .local) (hy : X.env.scope.names.lookup y = some .local) (hz : X.env.scope.names.lookup z = some .local) (ha : DA X p [a, b, c] tA fA)
    (hw : swappedStores [.Tuple [.Name x px, .Name y py, .Name z pz] kt pt] (.Tuple [a, b, c] k2 pt2) X.env = pure (some [x, y, z]))
    (hs : swapsWithSole [.Tuple [.Name x px, .Name y py, .Name z pz] kt pt] (.Tuple [a, b, c] k2 pt2) pos.line X.env = pure false := by rfl) :
    DS X p (.Assign [.Tuple [.Name x px, .Name y py, .Name z pz] kt pt] (.Tuple [a, b, c] k2 pt2) pos) (tPar3 i j l tA) (vPar3 i j l fA) :=
  ⟨ps_par3 hc hN hi hj hl hij hil hjl hx hy hz ha.py hw hs, fun E P q => S_par32 ((ha.ok E _ q).imp fun ds hd => hd.2)⟩
def vRet (f : WE) : WS := fun E P => f E P.R
theorem ds_ret (h : DE X p e te fe) : DS X p (.Return (some e) pos) (tRet te) (vRet fe) := ⟨ps_ret h.py, fun E P q => S_ret (h.ok E _ q)⟩
def vRetN : WS := fun _ P => P.R .none
theorem ds_retN : DS X p (.Return none pos) tRetN vRetN := ⟨ps_retN, fun _ _ q => S_retN q⟩
def vIfS (f : WB) (g h : WS) : WS := fun E P => f E fun b => ifB b (g E P) (h E P)
theorem ds_if {sa sb : List Stmt} {t1 t2 : TS} {f1 f2 : WS} (hc : DT X p c tt ft) (ha : DSs X p sa t1 f1) (hb : DSs X p sb t2 f2) : DS X p (.If c sa sb pos) (tIfS tt t1 t2) (vIfS ft f1 f2) :=
  ⟨ps_if hc.py ha.py hb.py, fun E P q => S_if ((hc.ok E _ q).imp fun b hb' => ⟨fun z => ha.ok E P ((ifB_to hb').1 z), fun z => hb.ok E P ((ifB_to hb').2 z)⟩)⟩
def vDrop (f : WE) : WS := fun E P => f E fun _ => P.N E
theorem ds_expr (h : DE X p e te fe) (hs : swapsWith e none pos.line X.env = pure false := by rfl) : DS X p (.Expr e pos) (tDrop te) (vDrop fe) := ⟨ps_expr h.py hs, fun E P q => S_drop (h.ok E _ q)⟩
def vBreak : WS := fun E P => P.B E
def vCont : WS := fun E P => P.C E
theorem ds_break : DS X p (.Break pos) tBreak vBreak := ⟨ps_break, fun _ _ q => S_break q⟩
theorem ds_continue : DS X p (.Continue pos) tCont vCont := ⟨ps_continue, fun _ _ q => S_cont q⟩
theorem ds_pass : DS X p (.Pass pos) tNext vNext := ⟨ps_pass, fun _ _ q => S_next q⟩
/-- what is never come to -/
def vNever : WS := fun _ _ => False
theorem ds_never : DS X p s tNever vNever := ⟨ps_never, fun _ _ q => q.elim⟩
/-- x op= e upon ints -/
def intD (d : PyData) (k : Int → Prop) : Prop := match d with
  | .int i => k i
  | _ => False
theorem intD_ok {d : PyData} {k : Int → Prop} (h : intD d k) : ∃ i, d = .int i ∧ k i := by
  cases d with
  | int i => exact ⟨i, rfl, h⟩
  | _ => exact h.elim
def slD (s : Sl) (k : PyData → Prop) : Prop := match s with
  | .d d => k d
  | _ => False
def vAug (i : Nat) (op : Int → Int → Int) (f : WE) : WS := fun E P => slD (geE E i) fun x => intD x fun a => f E fun d => intD d fun b => puE E i (.d (.int (op a b))) P.N
theorem slD_ok {s : Sl} {k : PyData → Prop} (h : slD s k) : ∃ d, s = .d d ∧ k d := by
  cases s with
  | d d => exact ⟨d, rfl, h⟩
  | _ => exact h.elim
theorem ds_aug {i : Nat} {x : Str} {op : Operator} {g : Int → Int → Int} {pos' : Pos} (hN : X.N.Nodup) (hi : X.N[i]? = some x) (hx : Loc X.env.scope x) (he : DE X p e te fe) (ho : PIp X op (ipI g))
    (hf : X.fn x = true ∨ X.env.scope.names.lookup x = some .local := by first | exact .inl rfl | exact .inr rfl | assumption) : DS X p (.AugAssign (.Name x pos') op e pos) (tAug i te (ipI g)) (vAug i g fe) := by
  refine ⟨ps_aug hN hi hx he.py ho hf, fun E P q => ?_⟩
  obtain ⟨x, hx, q⟩ := slD_ok q
  obtain ⟨a, rfl, q⟩ := intD_ok q
  refine S_augI (geE_ok hx Sl.noConfusion) ((he.ok E _ q).imp fun d hd => ?_)
  obtain ⟨b, rfl, hd⟩ := intD_ok hd
  exact ⟨b, rfl, (puE_ok hd).2⟩

/-! ### lists of one's own changed -/
def ownD (s : Sl) (k : List PyData → Prop) : Prop := match s with
  | .m ds => k ds
  | _ => False
theorem ownD_ok {s : Sl} {k : List PyData → Prop} (h : ownD s k) : ∃ ds, s = .m ds ∧ k ds := by
  cases s with
  | m ds => exact ⟨ds, rfl, h⟩
  | _ => exact h.elim
def vApp (i : Nat) (f : WE) : WS := fun E P => ownD (geE E i) fun ds => ds.length < sizeLine ∧ f E fun d => puE E i (.m (ds ++ [d])) P.N
theorem ds_app {i : Nat} {x : Str} {p1 apos cpos : Pos} (hN : X.N[i]? = some x) (hv : Vis X.env.scope x) (he : DE X p e te fe) (hd : (x == ("__debug__" : Str)) = false := by decide) (hcd : (x == ("__classdict__" : Str)) = false := by decide)
    (hbase : attributeBase (.Name x p1) "append" X.env (eval (.Name x p1) X.env) = eval (.Name x p1) X.env := by rfl)
    (hfew : ((backTo cpos (starEach [e] X.env)).all (fun x => !x.1) && (backToKw cpos (keywordEach [] X.env)).all (fun x => x.1.isSome)
      && decide ([e].length + ([] : List Keyword).length + (if ([] : List Keyword).isEmpty then 0 else 1) < 30)) = true := by rfl)
    (hline : (apos.endLine == cpos.line) = true := by rfl) (hs : starEach [e] X.env = (false, eval e X.env) :: starEach [] X.env := by rfl) (hplain : (backTo cpos (starEach [] X.env)).any (·.1) = false := by rfl)
    (hsw : swapsWith (.Call (.Attribute (.Name x p1) "append" apos) [e] [] cpos) none pos.line X.env = pure false := by rfl) :
    DS X p (.Expr (.Call (.Attribute (.Name x p1) "append" apos) [e] [] cpos) pos) (tDrop (tBM X.K "list" rAppend (tVar i) (tCons te tNil))) (vApp i fe) := by
  refine ⟨ps_expr (pe_bm PySem.F.plainAttrs_list PySem.F.slot_list_append PySem.F.type_list_append mt_append (pe_var hN hv hd hcd) (pa_cons he.py pa_nil hs) hbase hfew hline hs hplain) hsw, fun E P q => ?_⟩
  obtain ⟨ds, hs, q⟩ := ownD_ok q
  exact S_app (geE_ok hs Sl.noConfusion) q.1 ((he.ok E _ q.2).imp fun d hd => (puE_ok hd).2)
/-- xs[k] = e -/
def vSetI (i : Nat) (f g : WE) : WS := fun E P => ownD (geE E i) fun ds => f E fun d => g E fun y => intD y fun k => match ixN ds.length k with
  | some n => puE E i (.m (ds.set n d)) P.N
  | none => False
theorem ds_setI {i : Nat} {x : Str} {p1 : Pos} (hN : X.N[i]? = some x) (hv : Vis X.env.scope x) (he : DE X p e te fe) (hb : DE X p b tb fb) (hd : (x == ("__debug__" : Str)) = false := by decide) (hcd : (x == ("__classdict__" : Str)) = false := by decide)
    (ha : ∀ v, assign (.Subscript (.Name x p1) b px) X.env v = (do
      let ov ← holding [v] (eval (.Name x p1) X.env)
      let iv ← holding [v, ov] (eval b X.env)
      standAt px
      holding [v, ov, iv] (setItem ov iv v)
      release [v, ov, iv] []) := by intro _; rfl)
    (hs : swapsWithSole [.Subscript (.Name x p1) b px] e pos.line X.env = pure false := by rfl) (hw : swappedStores [.Subscript (.Name x p1) b px] e X.env = pure none := by rfl)
    (h1 : (assignEach [.Subscript (.Name x p1) b px] X.env).map (·.2) = [assign (.Subscript (.Name x p1) b px) X.env] := by rfl) :
    DS X p (.Assign [.Subscript (.Name x p1) b px] e pos) (tAsg te (gSub (tVar i) tb rSetL)) (vSetI i fe fb) := by
  refine ⟨ps_asg he.py (pg_sub (pe_var hN hv hd hcd) hb.py set_list ha) hs hw h1, fun E P q => ?_⟩
  obtain ⟨ds, hs, q⟩ := ownD_ok q
  refine S_setM (geE_ok hs Sl.noConfusion) ((he.ok E _ q).imp fun d hd => (hb.ok E _ hd).imp fun y hy => ?_)
  obtain ⟨k, rfl, hk⟩ := intD_ok hy
  split at hk <;> rename_i n hn
  · exact ⟨k, n, rfl, hn, (puE_ok hk).2⟩
  · exact hk.elim

/-! ### loops -/
def forW (g : WG) (body : WS) : List PyData → Ev → Post → Prop
  | [], E, P => P.N E
  | x :: xs, E, P => g x E fun E1 => body E1 ⟨fun E2 => forW g body xs E2 P, P.R, P.N, fun E2 => forW g body xs E2 P⟩
def vFor (it : WL) (g : WG) (body : WS) : WS := fun E P => it E fun xs => forW g body xs E P
theorem ds_for {iter : Expr} {body : List Stmt} {wi : TI} {g : TG} {vs : List Nat} {tb : TS} {fi : WL} {fg : WG} {fb : WS} (hp : PassesOwn (model X.prog X.w) X.A X.env X.xe) (hc : X.calm = true) (hi : DI X p tg iter wi fi) (hg : DV X p tg g vs fg) (hb : DSs X p body tb fb)
    (hs : ∀ x, foldedSetIterable iter X.env x = pure x := by intro _; rfl) : DS X p (.For tg iter body [] pos) (tFor wi g tb) (vFor fi fg fb) := by
  refine ⟨ps_for hp hc hi.py hg.py hb.py hs, fun E P q => ?_⟩
  intro G0 H0 G H σ x j e D z
  refine hi.ok E _ q H0 G H σ j e _ fun Jt xs G1 H1 x1 j1 w hx => ?_
  obtain ⟨Gd, Y, w1, w2, w3⟩ := w.ex
  have z1 := x.trans x1
  refine for_it w1 (fun k σ' H' => Lp X.K p G1 H0 (fun E' => forW fg fb (xs.drop k) E' P) σ' H') ⟨E, G1, Xt.from z1 z1 (Same.refl _), j1, e.mono x1, hx⟩ (fun k σ' H' _ q => ?_) (fun k v σ' H' H2 hk q y => ?_) fun σ' H' q => ?_
  · obtain ⟨E', G', x', j', e', i'⟩ := q
    exact w2 G' H' x'.gg j'
  · obtain ⟨E', G', x', j', e', i'⟩ := q
    obtain ⟨G2, d, x2, j2, hd, dv⟩ := w3 k G' H' v H2 hk x'.gg j' y
    have e5 : xs.drop k = d :: xs.drop (k + 1) := by
      rw [List.drop_eq_getElem_cons hk]
      congr 1
      exact Option.some.inj ((List.getElem?_eq_getElem hk).symm.trans hd)
    rw [e5] at i'
    have h6 : fg d E' fun E1 => fb E1 ⟨fun E2 => forW fg fb (xs.drop (k + 1)) E2 P, P.R, P.N, fun E2 => forW fg fb (xs.drop (k + 1)) E2 P⟩ := i'
    refine hg.tg h6 H0 G2 H2 σ' v j2 (e'.mono x2) dv _ fun σ2 E2 e2 s2 => ?_
    exact hb.ok E2 _ s2 G1 H0 G2 H2 σ2 (x'.trans x2) j2 e2 _ (Lp.exits z z1)
  · obtain ⟨E', G', x', j', e', i'⟩ := q
    rw [List.drop_length] at i'
    exact z.nx σ' E' G' H' (z1.back x') j' e' i'
def whW (c : WB) (body : WS) : Nat → Ev → Post → Prop
  | 0, _, _ => False
  | n + 1, E, P => c E fun k => ifB k (body E ⟨fun E2 => whW c body n E2 P, P.R, P.N, fun E2 => whW c body n E2 P⟩) (P.N E)
def vWhile (c : WB) (body : WS) : WS := fun E P => ∃ n, whW c body n E P
theorem ds_while {body : List Stmt} {tb : TS} {fb : WS} (hp : PassesOwn (model X.prog X.w) X.A X.env X.xe) (hc : DT X p c tt ft) (hb : DSs X p body tb fb) : DS X p (.While c body [] pos) (tWhile tt tb) (vWhile ft fb) := by
  refine ⟨ps_while hp hc.py hb.py, fun E P q => ?_⟩
  obtain ⟨n, hn⟩ := q
  refine S_while (fun m E' => whW ft fb m E' P) n hn fun m E' h => ?_
  cases m with
  | zero => exact h.elim
  | succ m =>
    have h2 : ft E' fun k => ifB k (fb E' ⟨fun E2 => whW ft fb m E2 P, P.R, P.N, fun E2 => whW ft fb m E2 P⟩) (P.N E') := h
    refine (hc.ok E' _ h2).imp fun k hk => ⟨fun z => ?_, fun z => (ifB_to hk).2 z⟩
    exact (hb.ok E' _ ((ifB_to hk).1 z)).imp (fun E2 w => ⟨m, Nat.lt_succ_self m, w⟩) (fun _ w => w) (fun _ w => w) fun E2 w => ⟨m, Nat.lt_succ_self m, w⟩
end

/-! ### a def's body -/
section
variable {P : Program} {w : World} {K : PySem.W.Frag} {mg : Str → Option Value} {base : Heap} {x qual : Str} {params : Arguments} {body : List Stmt} {scope : Scope} {dvs : List V} {kws : List (Str × V)} {f : Addr} {fd : FuncData} {CX : CXT} {N ps : List Str} {k : Nat}
theorem fn_F {n m : Nat} {b : WS} (F : FunD K x qual params body scope dvs kws f fd) (Sc : FnScope N ps scope) (hn : ps.length = n) (hN : N.length = n + m)
    (hb : ∀ (cdv : Value) (A : Around) (outer : List Env) (s : Shared) (H : Hp) (E : XK) (p : Option Addr), Room k (A.deeper (envOfC qual scope s.heap.objs.size f cdv)) → A.guards = some [] →
      ∃ t, DSs (cxOf CX P w K mg base N qual scope f cdv A outer s H E).nox p body t b) : FnG P w K mg base CX (k + 1) f fd ps (spF K n (mkF n m b)) := by
  refine FnG.of F Sc (fun vs H Q E h => h.1.trans hn.symm) fun cdv A outer s H vs Q E hr hg h => ?_
  obtain ⟨h1, p, G, ds, Φ, j, dv, h2, k2⟩ := h
  obtain ⟨t, ht⟩ := hb cdv A outer s H E p hr hg
  refine ⟨t, PSs.nox ht.py, ?_⟩
  obtain ⟨hl, hbb⟩ := h2
  refine ht.ok _ _ hbb G H G H _ Xt.refl j (env_start dv m (by rw [h1]; exact hN)) _ ?_
  exact ⟨fun σ E G' H' x j' e o => k2 _ _ G' H' x j' .non o, fun v d G' H' x j' dv' o => k2 v d G' H' x j' dv' o, fun _ _ _ _ _ _ _ z => z.elim, fun _ _ _ _ _ _ _ z => z.elim⟩
theorem fn_Q {n m : Nat} {b : Addr → WS} (F : FunD K x qual params body scope dvs kws f fd) (Sc : FnScope N ps scope) (hn : ps.length = n) (hN : N.length = n + m)
    (hb : ∀ (cdv : Value) (A : Around) (outer : List Env) (s : Shared) (H : Hp) (E : XK) (a : Addr), Room k (A.deeper (envOfC qual scope s.heap.objs.size f cdv)) → A.guards = some [] →
      ∃ t, DSs (cxOf CX P w K mg base N qual scope f cdv A outer s H E).nox (some a) body t (b a)) : FnG P w K mg base CX (k + 1) f fd ps (spQ K n (mkQ n m b)) := by
  refine FnG.of F Sc (fun vs H Q E h => h.1.trans hn.symm) fun cdv A outer s H vs Q E hr hg h => ?_
  obtain ⟨h1, a, ws, G, ds, Φ, rfl, j, dv, h2, k2⟩ := h
  obtain ⟨t, ht⟩ := hb cdv A outer s H E a hr hg
  refine ⟨t, PSs.nox ht.py, ?_⟩
  obtain ⟨hl, hbb⟩ := h2
  rw [List.length_cons] at h1
  refine ht.ok _ _ hbb G H G H _ Xt.refl j (env_pail dv m (by omega)) _ ?_
  exact ⟨fun σ E G' H' x j' e o => k2 _ _ G' H' x j' .non o, fun v d G' H' x j' dv' o => k2 v d G' H' x j' dv' o, fun _ _ _ _ _ _ _ z => z.elim, fun _ _ _ _ _ _ _ z => z.elim⟩
end
end Rim

/-! RimK: the pail; defs that hand back a list of their own; the law's own def. -/
namespace Rim
open PySem PySem.Spec PyProof.Rows L2
section
variable {X : Cx} {p : Option Addr} {ap : Addr} {tg e a b c : Expr} {es : List Expr} {te ta tb tc : TE} {fe fa fb fc : WE} {tA : TA} {fA : WL} {pos px : Pos} {tt tu : TT} {ft fu : WB} {gM : WL}
  {s : Stmt} {ss : List Stmt} {ts us : TS} {fs gs : WS} {gm : WL}
/-! ### the pail -/
def vPIx (k : Nat) (a : Addr) (i : Int) : WE := fun E Φ => geE E k = .v (.ref a) ∧ ∀ x, InP i x → Φ (.int x)
theorem de_pix {k : Nat} {i : Int} {j : Nat} {x : Str} {p1 p2 : Pos} (h0 : (decide (0 ≤ i) && decide (i < 3)) = true) (hN : X.N[k]? = some x) (hv : Vis X.env.scope x) (hd : (x == ("__debug__" : Str)) = false := by decide) (hcd : (x == ("__classdict__" : Str)) = false := by decide) :
    DE X (some ap) (.Subscript (.Name x p1) (.Constant (.int i) j p2) pos) (tOp (rIxL X.K) (tVar k) (tC (.int i))) (vPIx k ap i) := by
  have h1 : 0 ≤ i ∧ i < 3 := by
    rw [Bool.and_eq_true] at h0
    exact ⟨of_decide_eq_true h0.1, of_decide_eq_true h0.2⟩
  exact ⟨pe_ix ix_list (pe_var hN hv hd hcd) pe_int (fun _ _ => rfl), fun E Φ q => W_pail h1 (geE_ok q.1 Sl.noConfusion) q.2⟩
def vPSet (k : Nat) (a : Addr) (i : Int) (f : WE) : WS := fun E P => geE E k = .v (.ref a) ∧ f E fun d => intD d fun x => InP i x ∧ P.N E
theorem ds_pset {k : Nat} {i : Int} {j : Nat} {x : Str} {p1 p2 : Pos} (h0 : (decide (0 ≤ i) && decide (i < 3)) = true) (hN : X.N[k]? = some x) (hv : Vis X.env.scope x) (he : DE X (some ap) e te fe) (hd : (x == ("__debug__" : Str)) = false := by decide) (hcd : (x == ("__classdict__" : Str)) = false := by decide)
    (ha : ∀ v, assign (.Subscript (.Name x p1) (.Constant (.int i) j p2) px) X.env v = (do
      let ov ← holding [v] (eval (.Name x p1) X.env)
      let iv ← holding [v, ov] (eval (.Constant (.int i) j p2) X.env)
      standAt px
      holding [v, ov, iv] (setItem ov iv v)
      release [v, ov, iv] []) := by intro _; rfl)
    (hs : swapsWithSole [.Subscript (.Name x p1) (.Constant (.int i) j p2) px] e pos.line X.env = pure false := by rfl) (hw : swappedStores [.Subscript (.Name x p1) (.Constant (.int i) j p2) px] e X.env = pure none := by rfl)
    (h1 : (assignEach [.Subscript (.Name x p1) (.Constant (.int i) j p2) px] X.env).map (·.2) = [assign (.Subscript (.Name x p1) (.Constant (.int i) j p2) px) X.env] := by rfl) :
    DS X (some ap) (.Assign [.Subscript (.Name x p1) (.Constant (.int i) j p2) px] e pos) (tAsg te (gSub (tVar k) (tC (.int i)) rSetL)) (vPSet k ap i fe) := by
  have h2 : 0 ≤ i ∧ i < 3 := by
    rw [Bool.and_eq_true] at h0
    exact ⟨of_decide_eq_true h0.1, of_decide_eq_true h0.2⟩
  refine ⟨ps_asg he.py (pg_sub (pe_var hN hv hd hcd) pe_int set_list ha) hs hw h1, fun E P q => S_pail h2 (geE_ok q.1 Sl.noConfusion) ((he.ok E _ q.2).imp fun d hd => ?_)⟩
  obtain ⟨x, rfl, hx⟩ := intD_ok hd
  exact ⟨x, rfl, hx⟩
def pairD (d : PyData) (k : PyData → PyData → Prop) : Prop := match d with
  | .tuple [a, b] => k a b
  | _ => False
theorem pairD_ok {d : PyData} {k : PyData → PyData → Prop} (h : pairD d k) : ∃ a b, d = .tuple [a, b] ∧ k a b := by
  unfold pairD at h
  split at h
  · exact ⟨_, _, rfl, h⟩
  · exact h.elim
def vPPar (k : Nat) (a : Addr) (i : Int) (m : Nat) (f : WE) : WS := fun E P => geE E k = .v (.ref a) ∧ f E fun d => pairD d fun u w => intD u fun x => intD w fun y => InP i x ∧ puE E m (.d (.int y)) P.N
/-- pail[i], y = e -/
theorem ds_ppar {k m : Nat} {i : Int} {j kt : Nat} {x y : Str} {p1 p2 py pt : Pos} (h0 : (decide (0 ≤ i) && decide (i < 3)) = true) (hNd : X.N.Nodup) (hN : X.N[k]? = some x) (hv : Vis X.env.scope x) (hM : X.N[m]? = some y) (hl : Loc X.env.scope y) (hc : X.calm = true)
    (he : DE X (some ap) e te fe) (hd : (x == ("__debug__" : Str)) = false := by decide) (hcd : (x == ("__classdict__" : Str)) = false := by decide)
    (hf : X.fn y = true ∨ X.env.scope.names.lookup y = some .local := by first | exact .inl rfl | exact .inr rfl | assumption)
    (ha : ∀ v, assign (.Subscript (.Name x p1) (.Constant (.int i) j p2) px) X.env v = (do
      let ov ← holding [v] (eval (.Name x p1) X.env)
      let iv ← holding [v, ov] (eval (.Constant (.int i) j p2) X.env)
      standAt px
      holding [v, ov, iv] (setItem ov iv v)
      release [v, ov, iv] []) := by intro _; rfl)
    (hs : swapsWithSole [.Tuple [.Subscript (.Name x p1) (.Constant (.int i) j p2) px, .Name y py] kt pt] e pos.line X.env = pure false := by rfl)
    (hw : swappedStores [.Tuple [.Subscript (.Name x p1) (.Constant (.int i) j p2) px, .Name y py] kt pt] e X.env = pure none := by rfl)
    (h1 : (assignEach [.Tuple [.Subscript (.Name x p1) (.Constant (.int i) j p2) px, .Name y py] kt pt] X.env).map (·.2) = [assign (.Tuple [.Subscript (.Name x p1) (.Constant (.int i) j p2) px, .Name y py] kt pt) X.env] := by rfl)
    (c1 : (assignEach [.Subscript (.Name x p1) (.Constant (.int i) j p2) px, .Name y py] X.env).map (·.2) = assign (.Subscript (.Name x p1) (.Constant (.int i) j p2) px) X.env :: (assignEach [.Name y py] X.env).map (·.2) := by rfl)
    (c2 : (assignEach [.Name y py] X.env).map (·.2) = assign (.Name y py) X.env :: (assignEach [] X.env).map (·.2) := by rfl)
    (n1 : (assignEach [.Subscript (.Name x p1) (.Constant (.int i) j p2) px, .Name y py] X.env).length = 2 := by rfl)
    (n2 : (assignEach [.Subscript (.Name x p1) (.Constant (.int i) j p2) px, .Name y py] X.env).findIdx? (·.1) = none := by rfl) :
    DS X (some ap) (.Assign [.Tuple [.Subscript (.Name x p1) (.Constant (.int i) j p2) px, .Name y py] kt pt] e pos) (tAsg te (gTup X.K 2 (gCons (gSub (tVar k) (tC (.int i)) rSetL) (gCons (gName m) gNil)))) (vPPar k ap i m fe) := by
  have h2 : 0 ≤ i ∧ i < 3 := by
    rw [Bool.and_eq_true] at h0
    exact ⟨of_decide_eq_true h0.1, of_decide_eq_true h0.2⟩
  refine ⟨ps_asg he.py (pg_tup hc (pgs_cons (pg_sub (pe_var hN hv hd hcd) pe_int set_list ha) (pgs_cons (pg_name hNd hM hl hf) pgs_nil c2) c1) n1 n2) hs hw h1, fun E P q => S_pailP h2 (geE_ok q.1 Sl.noConfusion) ((he.ok E _ q.2).imp fun d hd => ?_)⟩
  obtain ⟨u, w, rfl, hd⟩ := pairD_ok hd
  obtain ⟨x, rfl, hd⟩ := intD_ok hd
  obtain ⟨y, rfl, hd⟩ := intD_ok hd
  exact ⟨x, y, rfl, hd.1, (puE_ok hd.2).1, (puE_ok hd.2).2⟩

/-! ### a def that hands back a list of its own -/
structure DSM (X : Cx) (p : Option Addr) (ss : List Stmt) (t : TS) (f : WL) : Prop where
  py : PSs X ss t
  ok : ∀ E Ψ, f E Ψ → SM X.K p E t Ψ
def vSeqM (f : WS) (g : WL) : WL := fun E Ψ => f E ⟨fun E' => g E' Ψ, fun _ => False, Nev, Nev⟩
theorem dsm_cons (h : DS X p s ts fs) (k : DSM X p ss us gm) : DSM X p (s :: ss) (tSeq ts us) (vSeqM fs gm) :=
  ⟨pss_cons h.py k.py, fun E Ψ q => SM_seq ((h.ok E _ q).imp (fun E' z => k.ok E' Ψ z) (fun _ z => z) (fun _ z => z) fun _ z => z)⟩
theorem dsm_ret (h : DM X p e te gM) : DSM X p [.Return (some e) pos] (tRet te) gM := ⟨pss_one (ps_ret h.py), fun E Ψ q => SM_ret (h.ok E Ψ q)⟩
end

section
variable {P : Program} {w : World} {K : PySem.W.Frag} {mg : Str → Option Value} {base : Heap} {x qual : Str} {params : Arguments} {body : List Stmt} {scope : Scope} {dvs : List V} {kws : List (Str × V)} {f : Addr} {fd : FuncData} {CX : CXT} {N ps : List Str} {k : Nat}
def threeP (ds : List PyData) : Prop := ∃ x y z : Int, ds = [.int x, .int y, .int z] ∧ (0 ≤ y ∧ y < 2147483648)
theorem fn_M {m : Nat} {b : WL} (F : FunD K x qual params body scope dvs kws f fd) (Sc : FnScope N ps scope) (hn : ps.length = 2) (hN : N.length = 2 + m)
    (hm : ∀ (ns : List Int) (t : Int), 0 ≤ t → b (ends [.list (ns.map .int), .int t] m) threeP)
    (hb : ∀ (cdv : Value) (A : Around) (outer : List Env) (s : Shared) (H : Hp) (E : XK) (p : Option Addr), Room k (A.deeper (envOfC qual scope s.heap.objs.size f cdv)) → A.guards = some [] →
      ∃ t, DSM (cxOf CX P w K mg base N qual scope f cdv A outer s H E).nox p body t b) : FnG P w K mg base CX (k + 1) f fd ps (spPail K) := by
  refine FnG.of F Sc (fun vs H Q E h => h.1.trans hn.symm) fun cdv A outer s H vs Q E hr hg h => ?_
  obtain ⟨t, ht⟩ := hb cdv A outer s H E none hr hg
  refine ⟨t, PSs.nox ht.py, ?_⟩
  exact body_pail m hN h fun ns t0 h0 => ht.ok _ _ (hm ns t0 h0)
theorem fn_law {m : Nat} {b : WS} (F : FunD K x qual params body scope dvs kws f fd) (Sc : FnScope N ps scope) (hn : ps.length = 1) (hN : N.length = 1 + m)
    (hm : ∀ (ns : List Int), ns.length ≤ 63 → b (ends [.list (ns.map .int)] m) ⟨fun _ => False, fun d => d = .bool true, Nev, Nev⟩)
    (hb : ∀ (cdv : Value) (A : Around) (outer : List Env) (s : Shared) (H : Hp) (E : XK), Room k (A.deeper (envOfC qual scope s.heap.objs.size f cdv)) → A.guards = some [] →
      ∃ t, DSs (cxOf CX P w K mg base N qual scope f cdv A outer s H E).nox none body t b) : FnG P w K mg base CX (k + 1) f fd ps (spLaw K) := by
  refine FnG.of F Sc (fun vs H Q E h => h.1.trans hn.symm) fun cdv A outer s H vs Q E hr hg h => ?_
  obtain ⟨t, ht⟩ := hb cdv A outer s H E hr hg
  refine ⟨t, PSs.nox ht.py, ?_⟩
  exact body_law m hN h fun ns h0 => ht.ok _ _ (hm ns h0)
end
/-- right(pail(script, turn)) -/
def pargs (ds : List PyData) (k : Prop) : Prop := match ds with
  | [.list ns, .int t] => (∃ ms : List Int, ns = ms.map .int) ∧ 0 ≤ t ∧ k
  | _ => False
def vTurnC (F : Addr → WF) (f : WL) : WE := fun E Φ => f E fun ds => pargs ds (∀ a, F a [] Φ)
section
variable {X : Cx} {p : Option Addr} {es : List Expr} {e1 : Expr} {tA : TA} {fA : WL} {pos px p2 pos2 : Pos} {CX : CXT} {k k2 n : Nat} {f f2 : Addr} {fd fd2 : FuncData} {ps ps2 : List Str} {E0 E1 : XK} {x x2 : Str} {F : Addr → WF}
theorem de_turn (hf : FnG X.prog X.w X.K X.mg X.base CX k f fd ps (spQ X.K 1 F)) (hr : Room k X.A) (hgu : X.A.guards = some [])
    (hg : Gl X x) (hm : X.mg x = some (.ref f)) (hk : PySem.W.keepIn X.K (.ref f) = true) (hb : Binds X.K fd ps []) (hx : Passes CX X E0)
    (hf2 : FnG X.prog X.w X.K X.mg X.base CX k2 f2 fd2 ps2 (spPail X.K)) (hr2 : Room k2 X.A)
    (hg2 : Gl X x2) (hm2 : X.mg x2 = some (.ref f2)) (hk2 : PySem.W.keepIn X.K (.ref f2) = true) (hb2 : Binds X.K fd2 ps2 []) (hx2 : Passes CX X E1) (ha : DA X none (e1 :: es) tA fA)
    (hdb : (x == ("__debug__" : Str)) = false := by decide) (hdb2 : (x2 == ("__debug__" : Str)) = false := by decide)
    (he : starEach [.Call (.Name x2 p2) (e1 :: es) [] pos2] X.env = (false, eval (.Call (.Name x2 p2) (e1 :: es) [] pos2) X.env) :: starEach [] X.env := by rfl)
    (hpl : (backTo pos (starEach [] X.env)).any (·.1) = false := by rfl)
    (he2 : starEach (e1 :: es) X.env = (false, eval e1 X.env) :: starEach es X.env := by rfl)
    (hpl2 : (backTo pos2 (starEach es X.env)).any (·.1) = false := by rfl) :
    DE X none (.Call (.Name x px) [.Call (.Name x2 p2) (e1 :: es) [] pos2] [] pos) (tCall (spQ X.K 1 F) [] E0 (tCons (tCall (spPail X.K) [] E1 tA) tNil)) (vTurnC F fA) := by
  refine ⟨pe_callG hf hr hgu hg hm hk hb .nil hx (pa_cons (pe_callG hf2 hr2 hgu hg2 hm2 hk2 hb2 .nil hx2 ha.py hdb2 he2 hpl2) pa_nil he) hdb he hpl, fun E Φ q => ?_⟩
  intro H0 G H σ j e Q z
  refine ha.ok E _ q H0 G H σ j e _ fun vs ds G1 H1 x1 j1 dv h1 => ?_
  have h2 := h1.2
  unfold pargs at h2
  split at h2
  · obtain ⟨⟨ns, rfl⟩, ht, hk⟩ := h2
    rename_i t0
    rw [List.append_nil]
    refine ⟨dpA_len dv, G1, ns, t0, j1, dv, ht, fun l x y w G2 H2 x2 j2 hn hg hl hy => ?_⟩
    have j3 : J (some l) G2 H2 := ⟨j2.sub, fun b hb => by
      cases hb
      exact ⟨hg, x, y, w, hl, hy⟩⟩
    have hn0 : H l = none := by
      cases w : H l with
      | none => rfl
      | some o =>
        rw [x1.hh l o (by simp) w] at hn
        cases hn
    have x12 := x1.trans x2
    refine ⟨rfl, l, [], G2, [], Φ, rfl, j3, .nil, hk l, fun v d G3 H3 x3 j4 dv' hd => ?_⟩
    refine z v d G3 H3 ⟨x12.gg.trans x3.gg, fun b o _ hb => ?_, fun b _ hb hG => ?_⟩ ⟨j4.sub, fun b hb => by cases hb⟩ dv' hd
    · have hne : some l ≠ some b := fun w => by
        cases w
        rw [hn0] at hb
        cases hb
      exact x3.hh b o hne (x12.hh b o (by simp) hb)
    · have hne : some l ≠ some b := fun w => by
        cases w
        exact hb hn0
      refine x3.fr b hne ?_ (x12.fr b (by simp) hb hG)
      cases w : H b with
      | none => exact absurd w hb
      | some o =>
        rw [x12.hh b o (by simp) w]
        exact Option.some_ne_none o
  · exact h2.elim
end
end Rim
namespace Rim
open PySem PySem.Spec PyProof.Rows L2
section
variable {X : Cx} {p : Option Addr} {tg e a b c : Expr} {es : List Expr} {te ta tb tc : TE} {fe fa fb fc : WE} {tA : TA} {fA : WL} {pos px : Pos}
theorem dn (i : Nat) {x : Str} (hN : X.N[i]? = some x := by rfl) (hv : Vis X.env.scope x := by first | exact Or.inl rfl | exact Or.inr (Or.inl rfl) | exact Or.inr (Or.inr rfl)) (hd : (x == ("__debug__" : Str)) = false := by decide) (hcd : (x == ("__classdict__" : Str)) = false := by decide) :
    DE X p (.Name x pos) (tVar i) (vVar i) := de_var hN hv hd hcd
/-! ### slices of either kind -/
def slD2 (d : PyData) (fl fh : (Option Int → Prop) → Prop) (Φ : PyData → Prop) : Prop := match d with
  | .list ds => fl fun l => fh fun h => Φ (.list (cutD ds l h))
  | .tuple ds => fl fun l => fh fun h => Φ (.tuple (cutD ds l h))
  | _ => False
def vSl (f : WE) (fl fh : Ev → (Option Int → Prop) → Prop) : WE := fun E Φ => f E fun d => slD2 d (fl E) (fh E) Φ
def rSl2 (K : PySem.W.Frag) : V → Option Int → Option Int → Hp → VK → Prop := fun x lo hi H Q => rSlL K x lo hi H Q ∨ rSlA K x lo hi H Q
theorem de_sl {lo hi : Option Expr} {tl th : TO} {fl fh : Ev → (Option Int → Prop) → Prop} {p2 : Pos} (h : DE X p e te fe) (h1 : DOp X p lo tl fl) (h2 : DOp X p hi th fh) :
    DE X p (.Subscript e (.Slice lo hi none p2) pos) (tSl (rSl2 X.K) te tl th) (vSl fe fl fh) := by
  refine ⟨pe_slice (SlR.or sl_list sl_tupA) h.py h1.py h2.py, fun E Φ q => ?_⟩
  intro H0 G H σ j e Q z
  refine h.ok E _ q H0 G H σ j e _ fun v d G1 H1 x1 j1 dv hd => ?_
  cases d with
  | list ds =>
    refine h1.ok E _ hd H0 G1 H1 σ j1 (e.mono x1) _ fun l G2 H2 x2 j2 k2 => ?_
    refine h2.ok E _ k2 H0 G2 H2 σ j2 ((e.mono x1).mono x2) _ fun hh G3 H3 x3 j3 k3 => ?_
    obtain ⟨m, xs, rfl, hs, ha⟩ := dp_lst dv
    have x13 := x1.trans (x2.trans x3)
    have g13 := x2.gg.trans x3.gg
    refine Or.inl ⟨m, xs, rfl, (g13.trans j3.sub).seq hs, fun n hn => ?_⟩
    have x4 := Xt.laid (p := p) j3 (o := .lst (cutV xs l hh)) hn
    exact z _ _ _ _ (x13.trans x4) (j3.laid hn) (.lst (SqL.of upd_same) (dpA_mono x4.gg _ _ (cut_ds l hh (dpA_mono g13 ds xs ha)))) k3
  | tuple ds =>
    refine h1.ok E _ hd H0 G1 H1 σ j1 (e.mono x1) _ fun l G2 H2 x2 j2 k2 => ?_
    refine h2.ok E _ k2 H0 G2 H2 σ j2 ((e.mono x1).mono x2) _ fun hh G3 H3 x3 j3 k3 => ?_
    obtain ⟨m, xs, rfl, hs, ha⟩ := dp_tup dv
    have x13 := x1.trans (x2.trans x3)
    have g13 := x2.gg.trans x3.gg
    have da := dpA_mono g13 ds xs ha
    refine Or.inr ⟨m, xs, rfl, sqT_mono (g13.trans j3.sub) hs, fun w => ?_, fun w n hn => ?_⟩
    · rw [dpA_len ha] at w
      have e1 : cutD ds l hh = ds := by
        unfold cutD
        rw [w.1, w.2, List.drop_zero, Nat.sub_zero, List.take_length]
      rw [e1] at k3
      exact z _ _ G3 H3 x13 j3 (.tup (sqT_mono g13 hs) da) k3
    · have x4 := Xt.laid (p := p) j3 (o := .tup (cutV xs l hh)) hn
      exact z _ _ _ _ (x13.trans x4) (j3.laid hn) (.tup (SqT.of upd_same) (dpA_mono x4.gg _ _ (cut_ds l hh da))) k3
  | _ => exact hd.elim
/-- a list many times -/
def vRep (f : WL) (g : WE) : WL := fun E Ψ => f E fun ds => g E fun y => intD y fun k => (-(2 ^ 63) ≤ k ∧ k < 2 ^ 63 ∧ ds.length * k.toNat ≤ sizeLine) ∧ Ψ (List.replicate k.toNat ds).flatten
theorem dpA_flat {K : PySem.W.Frag} {G : Hp} {vs : List V} {ds : List PyData} (h : DpAll K G vs ds) : ∀ n : Nat, DpAll K G (List.replicate n vs).flatten (List.replicate n ds).flatten
  | 0 => .nil
  | n + 1 => by
    rw [List.replicate_succ, List.replicate_succ, List.flatten_cons, List.flatten_cons]
    exact dpA_append h (dpA_flat h n)
theorem dm_rep {ga : WL} (ha : DM X p a ta ga) (hb : DE X p b tb fb) : DM X p (.BinOp a .Mult b pos) (tOp rRep ta tb) (vRep ga fb) := by
  refine ⟨pe_op op_rep ha.py hb.py, fun E Ψ q => ?_⟩
  intro H0 G H σ j e Q z
  refine ha.ok E _ q H0 G H σ j e _ fun l vs ds G1 H1 x1 j1 hn hl hg dv hd => ?_
  refine hb.ok E _ hd H0 G1 H1 σ j1 (e.mono x1) _ fun u y G2 H2 x2 j2 du hy => ?_
  obtain ⟨k, rfl, ⟨k1, k2, k3⟩, hk⟩ := intD_ok hy
  have hl2 := x2.hh l _ (j.ne hn) hl
  have d2 := dpA_mono x2.gg ds vs dv
  refine ⟨l, k, vs, rfl, dp_int du, hl2, k1, k2, by rw [dpA_len d2]; exact k3, fun m hm => ?_⟩
  have x12 := x1.trans x2
  have hn2 : H m = none := by
    cases w : H m with
    | none => rfl
    | some o =>
      rw [x12.hh m o (j2.ne hm) w] at hm
      cases hm
  exact z m _ _ G2 _ (x12.trans (Xt.made j2 hm)) (j2.made (j2.free hm) (j2.ne hm)) hn2 upd_same (j2.free hm) (dpA_flat d2 k.toNat) hk
end

section
variable {X : Cx} {p : Option Addr} {e : Expr} {es : List Expr} {tA : TA} {fA : WL} {pos px : Pos}
theorem db_gcd : DB X (.builtin "math.gcd") rGcd oGcd := by
  refine ⟨cr_gcd, fun p xs Φ h => ?_⟩
  unfold oGcd at h
  split at h
  · exact WC_gcd h
  · exact h.elim
/-- a built-in function that the top holds -/
theorem de_fun {id : String} {r : List V → Hp → VK → Prop} {o : WF} {x : Str} (hb : DB X (.builtin id) r o) (hg : Gl X x) (hm : X.mg x = some (.builtin id)) (ha : DA X p (e :: es) tA fA) (hdb : (x == ("__debug__" : Str)) = false := by decide)
    (he : starEach (e :: es) X.env = (false, eval e X.env) :: starEach es X.env := by rfl) (hpl : (backTo pos (starEach es X.env)).any (·.1) = false := by rfl) : DE X p (.Call (.Name x px) (e :: es) [] pos) (tCB r tA) (vB o fA) :=
  ⟨pe_callBfun hb.py hg hm ha.py hdb he hpl, fun E Φ q => W_cb ((ha.ok E _ q).imp fun xs hx => hb.ok p xs Φ hx.2)⟩
end

/-! ### defaults that are tuples -/
def exB2 (cs : List (Str × PyData)) (is : List (Str × String)) (df : List ((Str × Nat) × PyData)) (K : PySem.W.Frag) : Bool := exB cs is K && df.all fun q => kD K (.ref (He.dflAt (q.1.1, none) q.1.2 K)) q.2
theorem exB2_1 {cs : List (Str × PyData)} {is : List (Str × String)} {df : List ((Str × Nat) × PyData)} {K : PySem.W.Frag} (h : exB2 cs is df K = true) : exB cs is K = true := (He.ba h).1
theorem dfl_ok {cs : List (Str × PyData)} {is : List (Str × String)} {df : List ((Str × Nat) × PyData)} {K : PySem.W.Frag} (h : exB2 cs is df K = true) (i : Nat) {q : (Str × Nat) × PyData} (hi : df[i]? = some q) : ∀ G, Dp K G (.ref (He.dflAt (q.1.1, none) q.1.2 K)) q.2 := by
  obtain ⟨v, r, d⟩ := kD_ok q.2 _ (List.all_eq_true.mp (He.ba h).2 q (List.mem_of_getElem? hi))
  cases v with
  | ref a =>
    cases r
    exact d
  | non => cases r
  | bl b => cases r
  | int i => obtain ⟨t, ht⟩ := r; cases ht
  | str i => obtain ⟨t, ht⟩ := r; cases ht
  | byt i => obtain ⟨t, ht⟩ := r; cases ht
  | flt i => obtain ⟨t, ht⟩ := r; cases ht
  | ty n => cases r
end Rim

namespace Rim
open PySem PySem.Spec PyProof.Rows L2
@[reducible] def c_ONE : PyData := .tuple [.int 1, .int 1]
@[reducible] def c_NOUGHT : PyData := .tuple [.tuple [.int 0, .int 1], .tuple [.int 0, .int 1]]
@[reducible] def c_UNIT : PyData := .tuple [.tuple [.int 1, .int 1], .tuple [.int 0, .int 1]]
def kp_1_0 {α : Type} (l : List α) : List α := match l with | [x0] => [x0] | _ => l
def kp_2_10 {α : Type} (l : List α) : List α := match l with | [x0, x1] => [x1, x0] | _ => l
def kp_3_210 {α : Type} (l : List α) : List α := match l with | [x0, x1, x2] => [x2, x1, x0] | _ => l
def b_reduced : WS := (vSeqS (vAsg 2 (vB oGcd (vCons (vVar 0) (vCons (vVar 1) vNil)))) (vSeqS (vIfS (vTest (vOp oLt (vVar 1) (vC (.int 0)))) (vAsg 2 (vNeg (vVar 2))) vNext) (vRet (vTup (vCons (vOp oDiv (vVar 0) (vVar 2)) (vCons (vOp oDiv (vVar 1) (vVar 2)) vNil))))))
def F_reduced : WF := mkF 2 1 b_reduced
def b_order : WS := (vSeqS (vPar 2 3 (vCons (vOp oMul (vOp oIx (vVar 0) (vC (.int 0))) (vOp oIx (vVar 1) (vC (.int 1)))) (vCons (vOp oMul (vOp oIx (vVar 1) (vC (.int 0))) (vOp oIx (vVar 0) (vC (.int 1)))) vNil))) (vSeqS (vIfS (vTest (vOp oEq (vVar 2) (vVar 3))) (vRet (vC (.int 0))) vNext) (vRet (vIf (vTest (vOp oLt (vVar 2) (vVar 3))) (vNeg (vC (.int 1))) (vC (.int 1))))))
def F_order : WF := mkF 2 2 b_order
def b_mirror : WS := (vSeqS (vAsgG (vOp oIx (vVar 0) (vC (.int 1))) (vgT 2 (vgCons (vgN 1) (vgCons (vgN 2) vgNil)))) (vRet (vTup (vCons (vOp oIx (vVar 0) (vC (.int 0))) (vCons (vTup (vCons (vNeg (vVar 1)) (vCons (vVar 2) vNil))) vNil)))))
def F_mirror : WF := mkF 1 2 b_mirror
def b_trimmed : WS := (vSeqS (vAsg 1 (vB oLen (vCons (vVar 0) vNil))) (vSeqS (vWhile (vAnd (vTest (vOp oGt (vVar 1) (vC (.int 0)))) (vTest (vOp oEq (vOp oIx (vVar 0) (vOp oSub (vVar 1) (vC (.int 1)))) (vC c_NOUGHT)))) (vAug 1 (fun i j => i - j) (vC (.int 1)))) (vRet (vB oTupOf (vCons (vSl (vVar 0) (fun _ Θ => Θ none) (vPart (vVar 1))) vNil)))))
def F_trimmed : WF := mkF 1 1 b_trimmed
def b_is_whole : WS := (vRet (vAndV (vIsi is_int (vVar 0)) (vNotV (vIsi is_bool (vVar 0)))))
def F_is_whole : WF := mkF 1 0 b_is_whole
def b__law_pot : WL := (vSeqM (vAsg 2 (vOp oAdd (vC (.int 8117)) (vOp oMul (vC (.int 6361)) (vVar 1)))) (vSeqM (vFor (vEnum (vCons (vSl (vVar 0) (fun _ Θ => Θ none) (vPart (vC (.int 63)))) vNil)) (vgT 2 (vgCons (vgN 3) (vgCons (vgN 4) vgNil))) (vAsg 2 (vOp oMod (vB oInt (vCons (vOp oAdd (vOp oAdd (vOp oMul (vVar 2) (vC (.int 69621))) (vOp oMul (vB oInt (vCons (vVar 4) vNil)) (vOp oAdd (vOp oMul (vC (.int 2)) (vVar 3)) (vC (.int 5))))) (vC (.int 40487))) vNil)) (vC (.int 2147483629))))) (vSeqM (vAsg 5 (vIf (vTest (vOp oLt (vVar 1) (vB oLen (vCons (vVar 0) vNil)))) (vB oAbs (vCons (vB oInt (vCons (vOp oIx (vVar 0) (vVar 1)) vNil)) vNil)) (vC (.int 0)))) (vCons (vIf (vTest (vOp oGe (vVar 5) (vOp oPow (vC (.int 10)) (vC (.int 18))))) (vVar 5) (vC (.int 0))) (vCons (vOp oMod (vB oInt (vCons (vOp oAdd (vOp oAdd (vOp oMul (vVar 2) (vC (.int 16807))) (vVar 5)) (vOp oMul (vC (.int 91)) (vVar 1))) vNil)) (vC (.int 2147483629))) (vCons (vC (.int 0)) vNil))))))
def b__law_draw (a : Addr) : WS := (vSeqS (vIfS (vTest (vOp oGt (vPIx 0 a 0) (vC (.int 0)))) (vSeqS (vPPar 0 a 0 2 (vB oDivmod (vCons (vPIx 0 a 0) (vCons (vVar 1) vNil)))) (vRet (vVar 2))) vNext) (vSeqS (vPSet 0 a 2 (vOp oAdd (vPIx 0 a 2) (vC (.int 1)))) (vSeqS (vPSet 0 a 1 (vOp oMod (vB oInt (vCons (vOp oAdd (vOp oAdd (vOp oMul (vPIx 0 a 1) (vC (.int 48271))) (vOp oMul (vC (.int 37)) (vPIx 0 a 2))) (vC (.int 11))) vNil)) (vC (.int 2147483629)))) (vRet (vOp oMod (vB oInt (vCons (vOp oDiv (vOp oMul (vPIx 0 a 1) (vOp oAdd (vOp oAdd (vOp oDiv (vPIx 0 a 1) (vC (.int 65537))) (vOp oMul (vC (.int 2)) (vPIx 0 a 2))) (vC (.int 1)))) (vC (.int 509))) vNil)) (vVar 1))))))
def F__law_draw : Addr → WF := mkQ 2 1 b__law_draw
def b__law_common : WS := (vSeqS (vPar 0 1 (vCons (vB oAbs (vCons (vVar 0) vNil)) (vCons (vB oAbs (vCons (vVar 1) vNil)) vNil))) (vSeqS (vWhile (vTest (vOp oGt (vVar 1) (vC (.int 0)))) (vPar 0 1 (vCons (vVar 1) (vCons (vOp oMod (vB oInt (vCons (vVar 0) vNil)) (vVar 1)) vNil)))) (vRet (vVar 0))))
def F__law_common : WF := mkF 2 0 b__law_common
def b__law_mirror : WS := (vRet (vTup (vCons (vOp oIx (vVar 0) (vC (.int 0))) (vCons (vNeg (vOp oIx (vVar 0) (vC (.int 1)))) (vCons (vOp oIx (vVar 0) (vC (.int 2))) vNil)))))
def F__law_mirror : WF := mkF 1 0 b__law_mirror
def b__law_is_nought : WS := (vRet (vAndV (vOp oEq (vOp oIx (vVar 0) (vC (.int 0))) (vC (.int 0))) (vOp oEq (vOp oIx (vVar 0) (vC (.int 1))) (vC (.int 0)))))
def F__law_is_nought : WF := mkF 1 0 b__law_is_nought
def b__law_real_2 : WS := (vRet (vTup (vCons (vOp oIx (vVar 0) (vC (.int 0))) (vCons (vC (.int 0)) (vCons (vOp oIx (vVar 0) (vC (.int 1))) vNil)))))
def F__law_real_2 : WF := mkF 1 0 b__law_real_2
def b__law_root : WS := (vSeqS (vPar 1 2 (vCons (vVar 0) (vCons (vOp oDiv (vOp oAdd (vVar 0) (vC (.int 1))) (vC (.int 2))) vNil))) (vSeqS (vWhile (vTest (vOp oLt (vVar 2) (vVar 1))) (vPar 1 2 (vCons (vVar 2) (vCons (vOp oDiv (vOp oAdd (vVar 2) (vOp oDiv (vVar 0) (vVar 2))) (vC (.int 2))) vNil)))) (vRet (vVar 1))))
def F__law_root : WF := mkF 1 2 b__law_root
def b_fraction_plus : WS := (vRet (vCall F_reduced (vCons (vOp oAdd (vOp oMul (vOp oIx (vVar 0) (vC (.int 0))) (vOp oIx (vVar 1) (vC (.int 1)))) (vOp oMul (vOp oIx (vVar 1) (vC (.int 0))) (vOp oIx (vVar 0) (vC (.int 1))))) (vCons (vOp oMul (vOp oIx (vVar 0) (vC (.int 1))) (vOp oIx (vVar 1) (vC (.int 1)))) vNil))))
def F_fraction_plus : WF := mkF 2 0 b_fraction_plus
def b_fraction_less : WS := (vRet (vCall F_reduced (vCons (vOp oSub (vOp oMul (vOp oIx (vVar 0) (vC (.int 0))) (vOp oIx (vVar 1) (vC (.int 1)))) (vOp oMul (vOp oIx (vVar 1) (vC (.int 0))) (vOp oIx (vVar 0) (vC (.int 1))))) (vCons (vOp oMul (vOp oIx (vVar 0) (vC (.int 1))) (vOp oIx (vVar 1) (vC (.int 1)))) vNil))))
def F_fraction_less : WF := mkF 2 0 b_fraction_less
def b_fraction_times : WS := (vRet (vCall F_reduced (vCons (vOp oMul (vOp oIx (vVar 0) (vC (.int 0))) (vOp oIx (vVar 1) (vC (.int 0)))) (vCons (vOp oMul (vOp oIx (vVar 0) (vC (.int 1))) (vOp oIx (vVar 1) (vC (.int 1)))) vNil))))
def F_fraction_times : WF := mkF 2 0 b_fraction_times
def b_number_from : WS := (vRet (vTup (vCons (vCall F_reduced (vCons (vVar 0) (vCons (vVar 2) vNil))) (vCons (vCall F_reduced (vCons (vVar 1) (vCons (vVar 2) vNil))) vNil))))
def F_number_from : WF := mkF 3 0 b_number_from
def b_size_of : WS := (vSeqS (vAsgG (vVar 0) (vgT 2 (vgCons (vgT 2 (vgCons (vgN 1) (vgCons (vgN 2) vgNil))) (vgCons (vgT 2 (vgCons (vgN 3) (vgCons (vgN 4) vgNil))) vgNil)))) (vSeqS (vPar 1 3 (vCons (vOp oMul (vVar 1) (vVar 4)) (vCons (vOp oMul (vVar 3) (vVar 2)) vNil))) (vRet (vCall F_reduced (vCons (vOp oAdd (vOp oMul (vVar 1) (vVar 1)) (vOp oMul (vVar 3) (vVar 3))) (vCons (vOp oMul (vOp oMul (vOp oMul (vVar 2) (vVar 2)) (vVar 4)) (vVar 4)) vNil))))))
def F_size_of : WF := mkF 1 4 b_size_of
def b_is_fraction : WS := (vSeqS (vIfS (vOr (vNot (vTru (vIsi is_tuple (vVar 0)))) (vTest (vOp oNe (vB oLen (vCons (vVar 0) vNil)) (vC (.int 2))))) (vRet (vC (.bool false))) vNext) (vSeqS (vAsgG (vVar 0) (vgT 2 (vgCons (vgN 1) (vgCons (vgN 2) vgNil)))) (vRet (vAndV (vCall F_is_whole (vCons (vVar 1) vNil)) (vAndV (vCall F_is_whole (vCons (vVar 2) vNil)) (vAndV (vOp oGt (vVar 2) (vC (.int 0))) (vOp oEq (vB oGcd (vCons (vVar 1) (vCons (vVar 2) vNil))) (vC (.int 1)))))))))
def F_is_fraction : WF := mkF 1 2 b_is_fraction
def b__law_pick (a : Addr) : WS := (vRet (vOp oIx (vVar 1) (vCallQ 0 a F__law_draw (vCons (vB oLen (vCons (vVar 1) vNil)) vNil))))
def F__law_pick : Addr → WF := mkQ 2 0 b__law_pick
def b__law_cut_2 : WS := (vSeqS (vAsg 3 (vCall F__law_common (vCons (vCall F__law_common (vCons (vVar 0) (vCons (vVar 1) vNil))) (vCons (vVar 2) vNil)))) (vRet (vTup (vCons (vOp oDiv (vVar 0) (vVar 3)) (vCons (vOp oDiv (vVar 1) (vVar 3)) (vCons (vOp oDiv (vVar 2) (vVar 3)) vNil))))))
def F__law_cut_2 : WF := mkF 3 1 b__law_cut_2
def b__law_fraction_2 : WS := (vSeqS (vAsg 2 (vCall F__law_common (vCons (vVar 0) (vCons (vVar 1) vNil)))) (vRet (vTup (vCons (vOp oDiv (vVar 0) (vVar 2)) (vCons (vOp oDiv (vVar 1) (vVar 2)) vNil)))))
def F__law_fraction_2 : WF := mkF 2 1 b__law_fraction_2
def b__law_is_fraction_2 : WS := (vSeqS (vIfS (vOr (vNot (vTru (vIsi is_tuple (vVar 0)))) (vTest (vOp oNe (vB oLen (vCons (vVar 0) vNil)) (vC (.int 2))))) (vRet (vC (.bool false))) vNext) (vSeqS (vIfS (vTest (vOp oNe (vOf (vLc [1] (vSeq (vVar 0)) (vgN 1) (vOr (vNot (vTru (vIsi is_int (vVar 1)))) (vTru (vIsi is_bool (vVar 1)))) (vVar 1))) (vOf vNil))) (vRet (vC (.bool false))) vNext) (vRet (vAndV (vOp oGt (vOp oIx (vVar 0) (vC (.int 1))) (vC (.int 0))) (vOp oEq (vCall F__law_common (vCons (vOp oIx (vVar 0) (vC (.int 0))) (vCons (vOp oIx (vVar 0) (vC (.int 1))) vNil))) (vC (.int 1)))))))
def F__law_is_fraction_2 : WF := mkF 1 1 b__law_is_fraction_2
def b__law_row_cut : WS := (vSeqS (vAsg 1 (vB oLen (vCons (vVar 0) vNil))) (vSeqS (vWhile (vAnd (vTest (vOp oGt (vVar 1) (vC (.int 0)))) (vTru (vCall F__law_is_nought (vCons (vOp oIx (vVar 0) (vOp oSub (vVar 1) (vC (.int 1)))) vNil)))) (vAsg 1 (vOp oSub (vVar 1) (vC (.int 1))))) (vRet (vSl (vVar 0) (fun _ Θ => Θ none) (vPart (vVar 1))))))
def F__law_row_cut : WF := mkF 1 1 b__law_row_cut
def b_plus : WS := (vRet (vTup (vCons (vCall F_fraction_plus (vCons (vOp oIx (vVar 0) (vC (.int 0))) (vCons (vOp oIx (vVar 1) (vC (.int 0))) vNil))) (vCons (vCall F_fraction_plus (vCons (vOp oIx (vVar 0) (vC (.int 1))) (vCons (vOp oIx (vVar 1) (vC (.int 1))) vNil))) vNil))))
def F_plus : WF := mkF 2 0 b_plus
def b_less : WS := (vRet (vTup (vCons (vCall F_fraction_less (vCons (vOp oIx (vVar 0) (vC (.int 0))) (vCons (vOp oIx (vVar 1) (vC (.int 0))) vNil))) (vCons (vCall F_fraction_less (vCons (vOp oIx (vVar 0) (vC (.int 1))) (vCons (vOp oIx (vVar 1) (vC (.int 1))) vNil))) vNil))))
def F_less : WF := mkF 2 0 b_less
def b_times : WS := (vSeqS (vAsgG (vVar 0) (vgT 2 (vgCons (vgT 2 (vgCons (vgN 2) (vgCons (vgN 3) vgNil))) (vgCons (vgT 2 (vgCons (vgN 4) (vgCons (vgN 5) vgNil))) vgNil)))) (vSeqS (vAsgG (vVar 1) (vgT 2 (vgCons (vgT 2 (vgCons (vgN 6) (vgCons (vgN 7) vgNil))) (vgCons (vgT 2 (vgCons (vgN 8) (vgCons (vgN 9) vgNil))) vgNil)))) (vSeqS (vAsgG (vTup (vCons (vOp oMul (vVar 2) (vVar 5)) (vCons (vOp oMul (vVar 4) (vVar 3)) (vCons (vOp oMul (vVar 6) (vVar 9)) (vCons (vOp oMul (vVar 8) (vVar 7)) vNil))))) (vgT 4 (vgCons (vgN 2) (vgCons (vgN 4) (vgCons (vgN 6) (vgCons (vgN 8) vgNil)))))) (vRet (vCall F_number_from (vCons (vOp oSub (vOp oMul (vVar 2) (vVar 6)) (vOp oMul (vVar 4) (vVar 8))) (vCons (vOp oAdd (vOp oMul (vVar 2) (vVar 8)) (vOp oMul (vVar 4) (vVar 6))) (vCons (vOp oMul (vOp oMul (vOp oMul (vVar 3) (vVar 5)) (vVar 7)) (vVar 9)) vNil))))))))
def F_times : WF := mkF 2 8 b_times
def b_scaled : WS := (vRet (vTup (vCons (vCall F_fraction_times (vCons (vOp oIx (vVar 0) (vC (.int 0))) (vCons (vVar 1) vNil))) (vCons (vCall F_fraction_times (vCons (vOp oIx (vVar 0) (vC (.int 1))) (vCons (vVar 1) vNil))) vNil))))
def F_scaled : WF := mkF 2 0 b_scaled
def b_is_number : WS := (vRet (vAndV (vIsi is_tuple (vVar 0)) (vAndV (vOp oEq (vB oLen (vCons (vVar 0) vNil)) (vC (.int 2))) (vAndV (vCall F_is_fraction (vCons (vOp oIx (vVar 0) (vC (.int 0))) vNil)) (vCall F_is_fraction (vCons (vOp oIx (vVar 0) (vC (.int 1))) vNil))))))
def F_is_number : WF := mkF 1 0 b_is_number
def b_is_bound : WS := (vRet (vAndV (vCall F_is_fraction (vCons (vVar 0) vNil)) (vOp oGt (vOp oIx (vVar 0) (vC (.int 0))) (vC (.int 0)))))
def F_is_bound : WF := mkF 1 0 b_is_bound
def b__law_less_2 : WS := (vRet (vCall F__law_cut_2 (vCons (vOp oSub (vOp oMul (vOp oIx (vVar 0) (vC (.int 0))) (vOp oIx (vVar 1) (vC (.int 2)))) (vOp oMul (vOp oIx (vVar 1) (vC (.int 0))) (vOp oIx (vVar 0) (vC (.int 2))))) (vCons (vOp oSub (vOp oMul (vOp oIx (vVar 0) (vC (.int 1))) (vOp oIx (vVar 1) (vC (.int 2)))) (vOp oMul (vOp oIx (vVar 1) (vC (.int 1))) (vOp oIx (vVar 0) (vC (.int 2))))) (vCons (vOp oMul (vOp oIx (vVar 0) (vC (.int 2))) (vOp oIx (vVar 1) (vC (.int 2)))) vNil)))))
def F__law_less_2 : WF := mkF 2 0 b__law_less_2
def b__law_times_2 : WS := (vRet (vCall F__law_cut_2 (vCons (vOp oSub (vOp oMul (vOp oIx (vVar 0) (vC (.int 0))) (vOp oIx (vVar 1) (vC (.int 0)))) (vOp oMul (vOp oIx (vVar 0) (vC (.int 1))) (vOp oIx (vVar 1) (vC (.int 1))))) (vCons (vOp oAdd (vOp oMul (vOp oIx (vVar 0) (vC (.int 0))) (vOp oIx (vVar 1) (vC (.int 1)))) (vOp oMul (vOp oIx (vVar 0) (vC (.int 1))) (vOp oIx (vVar 1) (vC (.int 0))))) (vCons (vOp oMul (vOp oIx (vVar 0) (vC (.int 2))) (vOp oIx (vVar 1) (vC (.int 2)))) vNil)))))
def F__law_times_2 : WF := mkF 2 0 b__law_times_2
def b__law_over_2 : WS := (vSeqS (vAsg 2 (vOp oAdd (vOp oMul (vOp oIx (vVar 1) (vC (.int 0))) (vOp oIx (vVar 1) (vC (.int 0)))) (vOp oMul (vOp oIx (vVar 1) (vC (.int 1))) (vOp oIx (vVar 1) (vC (.int 1)))))) (vRet (vCall F__law_cut_2 (vCons (vOp oMul (vOp oAdd (vOp oMul (vOp oIx (vVar 0) (vC (.int 0))) (vOp oIx (vVar 1) (vC (.int 0)))) (vOp oMul (vOp oIx (vVar 0) (vC (.int 1))) (vOp oIx (vVar 1) (vC (.int 1))))) (vOp oIx (vVar 1) (vC (.int 2)))) (vCons (vOp oMul (vOp oSub (vOp oMul (vOp oIx (vVar 0) (vC (.int 1))) (vOp oIx (vVar 1) (vC (.int 0)))) (vOp oMul (vOp oIx (vVar 0) (vC (.int 0))) (vOp oIx (vVar 1) (vC (.int 1))))) (vOp oIx (vVar 1) (vC (.int 2)))) (vCons (vOp oMul (vOp oIx (vVar 0) (vC (.int 2))) (vVar 2)) vNil))))))
def F__law_over_2 : WF := mkF 2 1 b__law_over_2
def b__law_size_2 : WS := (vRet (vCall F__law_cut_2 (vCons (vOp oAdd (vOp oMul (vOp oIx (vVar 0) (vC (.int 0))) (vOp oIx (vVar 0) (vC (.int 0)))) (vOp oMul (vOp oIx (vVar 0) (vC (.int 1))) (vOp oIx (vVar 0) (vC (.int 1))))) (vCons (vC (.int 0)) (vCons (vOp oMul (vOp oIx (vVar 0) (vC (.int 2))) (vOp oIx (vVar 0) (vC (.int 2)))) vNil)))))
def F__law_size_2 : WF := mkF 1 0 b__law_size_2
def b__law_number_2 : WS := (vRet (vTup (vCons (vCall F__law_fraction_2 (vCons (vOp oIx (vVar 0) (vC (.int 0))) (vCons (vOp oIx (vVar 0) (vC (.int 2))) vNil))) (vCons (vCall F__law_fraction_2 (vCons (vOp oIx (vVar 0) (vC (.int 1))) (vCons (vOp oIx (vVar 0) (vC (.int 2))) vNil))) vNil))))
def F__law_number_2 : WF := mkF 1 0 b__law_number_2
def b__law_is_number_2 : WS := (vSeqS (vIfS (vOr (vNot (vTru (vIsi is_tuple (vVar 0)))) (vTest (vOp oNe (vB oLen (vCons (vVar 0) vNil)) (vC (.int 2))))) (vRet (vC (.bool false))) vNext) (vRet (vAndV (vCall F__law_is_fraction_2 (vCons (vOp oIx (vVar 0) (vC (.int 0))) vNil)) (vCall F__law_is_fraction_2 (vCons (vOp oIx (vVar 0) (vC (.int 1))) vNil)))))
def F__law_is_number_2 : WF := mkF 1 0 b__law_is_number_2
def b__law_read_2 : WS := (vRet (vCall F__law_cut_2 (vCons (vOp oMul (vOp oIx (vOp oIx (vVar 0) (vC (.int 0))) (vC (.int 0))) (vOp oIx (vOp oIx (vVar 0) (vC (.int 1))) (vC (.int 1)))) (vCons (vOp oMul (vOp oIx (vOp oIx (vVar 0) (vC (.int 1))) (vC (.int 0))) (vOp oIx (vOp oIx (vVar 0) (vC (.int 0))) (vC (.int 1)))) (vCons (vOp oMul (vOp oIx (vOp oIx (vVar 0) (vC (.int 0))) (vC (.int 1))) (vOp oIx (vOp oIx (vVar 0) (vC (.int 1))) (vC (.int 1)))) vNil)))))
def F__law_read_2 : WF := mkF 1 0 b__law_read_2
def b__law_gauss (a : Addr) : WS := (vSeqS (vPar 1 2 (vCons (vIf (vTest (vOp oEq (vCallQ 0 a F__law_draw (vCons (vC (.int 24)) vNil)) (vC (.int 23)))) (vOp oPow (vC (.int 10)) (vC (.int 6))) (vC (.int 4))) (vCons (vCallQ 0 a F__law_pick (vCons (vTup (vCons (vC (.int 1)) (vCons (vC (.int 1)) (vCons (vC (.int 1)) (vCons (vC (.int 2)) (vCons (vC (.int 2)) (vCons (vC (.int 3)) (vCons (vC (.int 5)) vNil)))))))) vNil)) vNil))) (vSeqS (vAsg 3 (vOp oSub (vCallQ 0 a F__law_draw (vCons (vOp oAdd (vOp oMul (vC (.int 2)) (vVar 1)) (vC (.int 1))) vNil)) (vVar 1))) (vSeqS (vAsg 4 (vIf (vTest (vOp oGt (vCallQ 0 a F__law_draw (vCons (vC (.int 3)) vNil)) (vC (.int 0)))) (vOp oSub (vCallQ 0 a F__law_draw (vCons (vOp oAdd (vOp oMul (vC (.int 2)) (vVar 1)) (vC (.int 1))) vNil)) (vVar 1)) (vC (.int 0)))) (vRet (vCall F__law_cut_2 (vCons (vVar 3) (vCons (vVar 4) (vCons (vVar 2) vNil))))))))
def F__law_gauss : Addr → WF := mkQ 1 4 b__law_gauss
def b__law_place_2 (a : Addr) : WS := (vSeqS (vPar 1 2 (vCons (vCallQ 0 a F__law_pick (vCons (vTup (vCons (vC (.int 2)) (vCons (vC (.int 2)) (vCons (vC (.int 3)) (vCons (vC (.int 4)) (vCons (vC (.int 5)) vNil)))))) vNil)) (vCons (vC (.int 0)) vNil))) (vSeqS (vAsg 3 (vOp oAdd (vOp oSub (vCallQ 0 a F__law_draw (vCons (vOp oSub (vOp oMul (vC (.int 2)) (vVar 1)) (vC (.int 1))) vNil)) (vVar 1)) (vC (.int 1)))) (vSeqS (vIfS (vTest (vOp oEq (vCallQ 0 a F__law_draw (vCons (vC (.int 2)) vNil)) (vC (.int 0)))) (vAsg 2 (vOp oAdd (vOp oSub (vCallQ 0 a F__law_draw (vCons (vOp oSub (vOp oMul (vC (.int 2)) (vVar 1)) (vC (.int 1))) vNil)) (vVar 1)) (vC (.int 1)))) vNext) (vRet (vCall F__law_cut_2 (vCons (vVar 3) (vCons (vVar 2) (vCons (vIf (vTest (vOp oLt (vOp oAdd (vOp oMul (vVar 3) (vVar 3)) (vOp oMul (vVar 2) (vVar 2))) (vOp oMul (vVar 1) (vVar 1)))) (vVar 1) (vOp oMul (vC (.int 2)) (vVar 1))) vNil))))))))
def F__law_place_2 : Addr → WF := mkQ 1 3 b__law_place_2
def b__law_bound (a : Addr) : WS := (vSeqS (vIfS (vTest (vOp oEq (vCallQ 0 a F__law_draw (vCons (vC (.int 3)) vNil)) (vC (.int 0)))) (vRet (vCall F__law_fraction_2 (vCons (vOp oAdd (vC (.int 1)) (vCallQ 0 a F__law_draw (vCons (vC (.int 30)) vNil))) (vCons (vOp oAdd (vC (.int 1)) (vCallQ 0 a F__law_draw (vCons (vC (.int 12)) vNil))) vNil)))) vNext) (vRet (vCallQ 0 a F__law_pick (vCons (vTup (vCons (vTup (vCons (vC (.int 1)) (vCons (vC (.int 1)) vNil))) (vCons (vTup (vCons (vC (.int 1)) (vCons (vC (.int 1)) vNil))) (vCons (vTup (vCons (vC (.int 4)) (vCons (vC (.int 1)) vNil))) (vCons (vTup (vCons (vC (.int 1)) (vCons (vC (.int 4)) vNil))) (vCons (vTup (vCons (vC (.int 9)) (vCons (vC (.int 4)) vNil))) (vCons (vTup (vCons (vC (.int 2)) (vCons (vC (.int 1)) vNil))) (vCons (vTup (vCons (vC (.int 100)) (vCons (vC (.int 1)) vNil))) (vCons (vTup (vCons (vC (.int 1)) (vCons (vC (.int 25)) vNil))) vNil))))))))) vNil))))
def F__law_bound : Addr → WF := mkQ 1 0 b__law_bound
def b__law_unit (a : Addr) : WS := (vSeqS (vIfS (vTest (vOp oEq (vCallQ 0 a F__law_draw (vCons (vC (.int 2)) vNil)) (vC (.int 0)))) (vRet (vCallQ 0 a F__law_pick (vCons (vTup (vCons (vTup (vCons (vC (.int 1)) (vCons (vC (.int 0)) (vCons (vC (.int 1)) vNil)))) (vCons (vTup (vCons (vNeg (vC (.int 1))) (vCons (vC (.int 0)) (vCons (vC (.int 1)) vNil)))) (vCons (vTup (vCons (vC (.int 0)) (vCons (vC (.int 1)) (vCons (vC (.int 1)) vNil)))) (vCons (vTup (vCons (vC (.int 0)) (vCons (vNeg (vC (.int 1))) (vCons (vC (.int 1)) vNil)))) vNil))))) vNil))) vNext) (vSeqS (vPar 1 2 (vCons (vOp oAdd (vC (.int 1)) (vCallQ 0 a F__law_draw (vCons (vC (.int 4)) vNil))) (vCons (vOp oSub (vCallQ 0 a F__law_draw (vCons (vC (.int 9)) vNil)) (vC (.int 4))) vNil))) (vRet (vCall F__law_cut_2 (vCons (vOp oSub (vOp oMul (vVar 1) (vVar 1)) (vOp oMul (vVar 2) (vVar 2))) (vCons (vOp oMul (vOp oMul (vC (.int 2)) (vVar 1)) (vVar 2)) (vCons (vOp oAdd (vOp oMul (vVar 1) (vVar 1)) (vOp oMul (vVar 2) (vVar 2))) vNil)))))))
def F__law_unit : Addr → WF := mkQ 1 2 b__law_unit
def b_part_of : WS := (vRet (vCall F_scaled (vCons (vVar 0) (vCons (vTup (vCons (vOp oIx (vVar 1) (vC (.int 1))) (vCons (vOp oIx (vVar 1) (vC (.int 0))) vNil))) vNil))))
def F_part_of : WF := mkF 2 0 b_part_of
def b_over : WS := (vSeqS (vAsgG (vCall F_size_of (vCons (vVar 1) vNil)) (vgT 2 (vgCons (vgN 2) (vgCons (vgN 3) vgNil)))) (vRet (vCall F_scaled (vCons (vCall F_times (vCons (vVar 0) (vCons (vCall F_mirror (vCons (vVar 1) vNil)) vNil))) (vCons (vTup (vCons (vVar 3) (vCons (vVar 2) vNil))) vNil)))))
def F_over : WF := mkF 2 2 b_over
def b_need_bound : WS := (vIfS (vNot (vTru (vCall F_is_bound (vCons (vVar 0) vNil)))) vNever vNext)
def F_need_bound : WF := mkF 1 0 b_need_bound
def b_need_number : WS := (vIfS (vNot (vTru (vCall F_is_number (vCons (vVar 0) vNil)))) vNever vNext)
def F_need_number : WF := mkF 1 0 b_need_number
def b_is_any_turn : WS := (vSeqS (vIfS (vOr (vNot (vTru (vIsi is_tuple (vVar 0)))) (vTest (vOp oNe (vB oLen (vCons (vVar 0) vNil)) (vC (.int 2))))) (vRet (vC (.bool false))) vNext) (vSeqS (vAsgG (vVar 0) (vgT 2 (vgCons (vgN 1) (vgCons (vgN 2) vgNil)))) (vRet (vAndV (vCall F_is_number (vCons (vVar 1) vNil)) (vAndV (vCall F_is_number (vCons (vVar 2) vNil)) (vOp oEq (vCall F_size_of (vCons (vVar 1) vNil)) (vC c_ONE)))))))
def F_is_any_turn : WF := mkF 1 2 b_is_any_turn
def b_back_of : WS := (vSeqS (vAsgG (vVar 0) (vgT 2 (vgCons (vgN 1) (vgCons (vgN 2) vgNil)))) (vRet (vTup (vCons (vCall F_mirror (vCons (vVar 1) vNil)) (vCons (vCall F_less (vCons (vC c_NOUGHT) (vCons (vCall F_times (vCons (vVar 1) (vCons (vVar 2) vNil))) vNil))) vNil)))))
def F_back_of : WF := mkF 1 2 b_back_of
def b__law_line : WS := (vRet (vB oTupOf (vCons (vOf (vLc [1] (vSeq (vVar 0)) (vgN 1) vYes (vCall F__law_number_2 (vCons (vVar 1) vNil)))) vNil)))
def F__law_line : WF := mkF 1 1 b__law_line
def b__law_is_line : WS := (vSeqS (vIfS (vOr (vNot (vTru (vIsi is_tuple (vVar 0)))) (vTest (vOp oNe (vB oLen (vCons (vVar 0) vNil)) (vVar 1)))) (vRet (vC (.bool false))) vNext) (vRet (vOp oEq (vOf (vLc [2] (vSeq (vVar 0)) (vgN 2) (vNot (vTru (vCall F__law_is_number_2 (vCons (vVar 2) vNil)))) (vVar 2))) (vOf vNil))))
def F__law_is_line : WF := mkF 2 1 b__law_is_line
def b__law_within_2 (a : Addr) : WS := (vRet (vCall F__law_times_2 (vCons (vCallQ 0 a F__law_place_2 vNil) (vCons (vCall F__law_cut_2 (vCons (vCall F__law_root (vCons (vOp oMul (vOp oIx (vVar 1) (vC (.int 0))) (vOp oIx (vVar 1) (vC (.int 1)))) vNil)) (vCons (vC (.int 0)) (vCons (vOp oIx (vVar 1) (vC (.int 1))) vNil)))) vNil))))
def F__law_within_2 : Addr → WF := mkQ 2 0 b__law_within_2
def b__law_turn_rows : WS := (vRet (vTup (vCons (vOf (vCons (vCall F__law_less_2 (vCons (vTup (vCons (vC (.int 0)) (vCons (vC (.int 0)) (vCons (vC (.int 1)) vNil)))) (vCons (vCall F__law_times_2 (vCons (vVar 0) (vCons (vVar 1) vNil))) vNil))) (vCons (vVar 0) vNil))) (vCons (vOf (vCons (vTup (vCons (vC (.int 1)) (vCons (vC (.int 0)) (vCons (vC (.int 1)) vNil)))) (vCons (vCall F__law_less_2 (vCons (vTup (vCons (vC (.int 0)) (vCons (vC (.int 0)) (vCons (vC (.int 1)) vNil)))) (vCons (vCall F__law_over_2 (vCons (vCall F__law_mirror (vCons (vVar 1) vNil)) (vCons (vCall F__law_real_2 (vCons (vVar 2) vNil)) vNil))) vNil))) vNil))) vNil))))
def F__law_turn_rows : WF := mkF 3 0 b__law_turn_rows
def b__law_leads : WS := (vSeqS (vAsg 4 (vCall F__law_less_2 (vCons (vTup (vCons (vC (.int 1)) (vCons (vC (.int 0)) (vCons (vC (.int 1)) vNil)))) (vCons (vCall F__law_over_2 (vCons (vCall F__law_times_2 (vCons (vCall F__law_mirror (vCons (vVar 1) vNil)) (vCons (vVar 3) vNil))) (vCons (vCall F__law_real_2 (vCons (vVar 2) vNil)) vNil))) vNil)))) (vRet (vIf (vTru (vCall F__law_is_nought (vCons (vVar 4) vNil))) (vC (.none)) (vCall F__law_over_2 (vCons (vCall F__law_times_2 (vCons (vVar 0) (vCons (vCall F__law_less_2 (vCons (vVar 3) (vCons (vVar 1) vNil))) vNil))) (vCons (vVar 4) vNil))))))
def F__law_leads : WF := mkF 4 1 b__law_leads
def b__law_turn : WS := (vRet (vTup (vCons (vCall F__law_number_2 (vCons (vVar 0) vNil)) (vCons (vCall F__law_number_2 (vCons (vVar 1) vNil)) vNil))))
def F__law_turn : WF := mkF 2 0 b__law_turn
def b__law_below_2 : WS := (vRet (vOp oLt (vOp oIx (vCall F__law_less_2 (vCons (vCall F__law_size_2 (vCons (vVar 0) vNil)) (vCons (vCall F__law_real_2 (vCons (vVar 1) vNil)) vNil))) (vC (.int 0))) (vC (.int 0))))
def F__law_below_2 : WF := mkF 2 0 b__law_below_2
def b__law_maybe : WS := (vRet (vIf (vTest (vOp oIsN (vVar 0) (vC (.none)))) (vC (.none)) (vCall F__law_number_2 (vCons (vVar 0) vNil))))
def F__law_maybe : WF := mkF 1 0 b__law_maybe
def b_series_over : WS := (vSeqS (vAsgM 2 vNil) (vSeqS (vFor (vR1 (vCons (vB oLen (vCons (vVar 0) vNil)) vNil)) (vgN 3) (vSeqS (vAsg 4 (vOp oIx (vVar 0) (vVar 3))) (vSeqS (vFor (vR2 (vCons (vC (.int 1)) (vCons (vB oMin (vCons (vOp oAdd (vVar 3) (vC (.int 1))) (vCons (vB oLen (vCons (vVar 1) vNil)) vNil))) vNil))) (vgN 5) (vAsg 4 (vCall F_less (vCons (vVar 4) (vCons (vCall F_times (vCons (vOp oIx (vVar 1) (vVar 5)) (vCons (vIxV 2 (vOp oSub (vVar 3) (vVar 5))) vNil))) vNil))))) (vApp 2 (vCall F_over (vCons (vVar 4) (vCons (vOp oIx (vVar 1) (vC (.int 0))) vNil))))))) (vRet (vTupV 2))))
def F_series_over : WF := mkF 2 4 b_series_over
def b_is_turn_for : WS := (vRet (vAndV (vCall F_is_any_turn (vCons (vVar 0) vNil)) (vOp oLt (vCall F_order (vCons (vCall F_size_of (vCons (vOp oIx (vVar 0) (vC (.int 1))) vNil)) (vCons (vVar 1) vNil))) (vC (.int 0)))))
def F_is_turn_for : WF := mkF 2 0 b_is_turn_for
def b_one_turn : WS := (vSeqS (vAsgG (vTup (vCons (vVar 0) (vCons (vVar 1) vNil))) (vgT 2 (vgCons (vgT 2 (vgCons (vgN 3) (vgCons (vgN 4) vgNil))) (vgCons (vgT 2 (vgCons (vgN 5) (vgCons (vgN 6) vgNil))) vgNil)))) (vSeqS (vAsg 7 (vCall F_plus (vCons (vVar 3) (vCons (vCall F_part_of (vCons (vCall F_times (vCons (vVar 6) (vCons (vCall F_mirror (vCons (vVar 4) vNil)) vNil))) (vCons (vVar 2) vNil))) vNil)))) (vSeqS (vAsg 8 (vCall F_over (vCons (vCall F_times (vCons (vCall F_times (vCons (vVar 5) (vCons (vCall F_mirror (vCons (vVar 3) vNil)) vNil))) (vCons (vVar 7) vNil))) (vCons (vCall F_mirror (vCons (vVar 7) vNil)) vNil)))) (vRet (vTup (vCons (vVar 8) (vCons (vCall F_over (vCons (vCall F_plus (vCons (vCall F_times (vCons (vVar 3) (vCons (vVar 4) vNil))) (vCons (vVar 6) vNil))) (vCons (vVar 7) vNil))) vNil)))))))
def F_one_turn : WF := mkF 3 6 b_one_turn
def b_back : WS := (vSeqS (vIfS (vNot (vTru (vCall F_is_any_turn (vCons (vVar 0) vNil)))) vNever vNext) (vRet (vCall F_back_of (vCons (vVar 0) vNil))))
def F_back : WF := mkF 1 0 b_back
def b__law_quotient : WS := (vSeqS (vAsg 2 (vOp oIx (vVar 1) (vC (.int 0)))) (vRet (vTup (vCons (vCall F__law_line (vCons (vOf (vLc [3] (vSeq (vVar 0)) (vgN 3) vYes (vCall F__law_over_2 (vCons (vVar 3) (vCons (vVar 2) vNil))))) vNil)) (vCons (vCall F__law_line (vCons (vOf (vLc [3] (vSeq (vVar 1)) (vgN 3) vYes (vCall F__law_over_2 (vCons (vVar 3) (vCons (vVar 2) vNil))))) vNil)) vNil)))))
def F__law_quotient : WF := mkF 2 2 b__law_quotient
def b__law_drawn_turn (a : Addr) : WS := (vRet (vTup (vCons (vCallQ 0 a F__law_unit vNil) (vCons (vIf (vTest (vOp oEq (vCallQ 0 a F__law_draw (vCons (vC (.int 6)) vNil)) (vC (.int 0)))) (vTup (vCons (vC (.int 0)) (vCons (vC (.int 0)) (vCons (vC (.int 1)) vNil)))) (vCallQ 0 a F__law_within_2 (vCons (vVar 1) vNil))) vNil))))
def F__law_drawn_turn : Addr → WF := mkQ 2 0 b__law_drawn_turn
def b__law_is_turn : WS := (vSeqS (vIfS (vNot (vTru (vCall F__law_is_line (vCons (vVar 0) (vCons (vC (.int 2)) vNil))))) (vRet (vC (.bool false))) vNext) (vRet (vAndV (vOp oEq (vCall F__law_size_2 (vCons (vCall F__law_read_2 (vCons (vOp oIx (vVar 0) (vC (.int 0))) vNil)) vNil)) (vTup (vCons (vC (.int 1)) (vCons (vC (.int 0)) (vCons (vC (.int 1)) vNil))))) (vCall F__law_below_2 (vCons (vCall F__law_read_2 (vCons (vOp oIx (vVar 0) (vC (.int 1))) vNil)) (vCons (vVar 1) vNil))))))
def F__law_is_turn : WF := mkF 2 0 b__law_is_turn
def b__law_numbers (a : Addr) : WS := (vSeqS (vAsgM 3 (vCons (vCallQ 0 a F__law_within_2 (vCons (vVar 2) vNil)) (vCons (vCallQ 0 a F__law_gauss vNil) (vCons (vTup (vCons (vC (.int 0)) (vCons (vC (.int 0)) (vCons (vC (.int 1)) vNil)))) (vCons (vVar 1) (vCons (vCall F__law_times_2 (vCons (vCallQ 0 a F__law_unit vNil) (vCons (vCall F__law_cut_2 (vCons (vCall F__law_root (vCons (vOp oMul (vOp oIx (vVar 2) (vC (.int 0))) (vOp oIx (vVar 2) (vC (.int 1)))) vNil)) (vCons (vC (.int 0)) (vCons (vOp oIx (vVar 2) (vC (.int 1))) vNil)))) vNil))) vNil)))))) (vSeqS (vIfS (vNot (vTru (vCall F__law_is_nought (vCons (vVar 1) vNil)))) (vApp 3 (vCall F__law_over_2 (vCons (vCall F__law_real_2 (vCons (vVar 2) vNil)) (vCons (vCall F__law_mirror (vCons (vVar 1) vNil)) vNil)))) vNext) (vFroze 3 (vRet (vVar 3)))))
def F__law_numbers : Addr → WF := mkQ 3 1 b__law_numbers
def b_series_led : WS := (vSeqS (vAsgG (vVar 1) (vgT 2 (vgCons (vgN 3) (vgCons (vgN 4) vgNil)))) (vSeqS (vAsg 5 (vCall F_part_of (vCons (vCall F_mirror (vCons (vVar 4) vNil)) (vCons (vVar 2) vNil)))) (vSeqS (vAsg 6 (vOf (vLc [8] (vSeq (vOp oAdd (vTup (vCons (vCall F_less (vCons (vOp oIx (vVar 0) (vC (.int 0))) (vCons (vVar 4) vNil))) vNil)) (vSl (vVar 0) (vPart (vC (.int 1))) (fun _ Θ => Θ none)))) (vgN 8) vYes (vCall F_times (vCons (vVar 3) (vCons (vVar 8) vNil)))))) (vSeqS (vAsgM 7 (vLc [8] (vSeq (vVar 0)) (vgN 8) vYes (vCall F_times (vCons (vCall F_less (vCons (vC c_NOUGHT) (vCons (vVar 5) vNil))) (vCons (vVar 8) vNil))))) (vSeqS (vSetI 7 (vCall F_plus (vCons (vC c_UNIT) (vCons (vIxV 7 (vC (.int 0))) vNil))) (vC (.int 0))) (vFroze 7 (vRet (vIf (vTest (vOp oEq (vIxV 7 (vC (.int 0))) (vC c_NOUGHT))) (vC (.none)) (vCall F_series_over (vCons (vVar 6) (vCons (vVar 7) vNil)))))))))))
def F_series_led : WF := mkF 3 6 b_series_led
def b_need_turn : WS := (vIfS (vNot (vTru (vCall F_is_turn_for (vCons (vVar 0) (vCons (vVar 1) vNil))))) vNever vNext)
def F_need_turn : WF := mkF 2 0 b_need_turn
def b_is_turn : WS := (vSeqS (vDrop (vCall F_need_bound (vCons (vVar 1) vNil))) (vRet (vCall F_is_turn_for (vCons (vVar 0) (vCons (vVar 1) vNil)))))
def F_is_turn : WF := mkF 2 0 b_is_turn
def b_led_to : WS := (vSeqS (vAsg 3 (vCall F_series_led (vCons (vTup (vCons (vVar 1) vNil)) (vCons (vVar 0) (vCons (vVar 2) vNil))))) (vRet (vIf (vTest (vOp oIsN (vVar 3) (vC (.none)))) (vC (.none)) (vOp oIx (vVar 3) (vC (.int 0))))))
def F_led_to : WF := mkF 3 1 b_led_to
def b_behind : WS := (vSeqS (vDrop (vCall F_need_bound (vCons (vVar 2) vNil))) (vSeqS (vDrop (vCall F_need_turn (vCons (vVar 0) (vCons (vVar 2) vNil)))) (vSeqS (vDrop (vCall F_need_turn (vCons (vVar 1) (vCons (vVar 2) vNil)))) (vRet (vCall F_one_turn (vCons (vVar 0) (vCons (vVar 1) (vCons (vVar 2) vNil))))))))
def F_behind : WF := mkF 3 0 b_behind
def b_turn_quotient : WS := (vSeqS (vDrop (vCall F_need_bound (vCons (vVar 1) vNil))) (vSeqS (vDrop (vCall F_need_turn (vCons (vVar 0) (vCons (vVar 1) vNil)))) (vSeqS (vAsgG (vVar 0) (vgT 2 (vgCons (vgN 2) (vgCons (vgN 3) vgNil)))) (vSeqS (vAsg 4 (vCall F_part_of (vCons (vCall F_mirror (vCons (vVar 3) vNil)) (vCons (vVar 1) vNil)))) (vRet (vTup (vCons (vTup (vCons (vCall F_less (vCons (vC c_NOUGHT) (vCons (vCall F_times (vCons (vVar 2) (vCons (vVar 3) vNil))) vNil))) (vCons (vVar 2) vNil))) (vCons (vCall F_trimmed (vCons (vTup (vCons (vC c_UNIT) (vCons (vCall F_less (vCons (vC c_NOUGHT) (vCons (vVar 4) vNil))) vNil))) vNil)) vNil))))))))
def F_turn_quotient : WF := mkF 2 3 b_turn_quotient
def b_led : WS := (vSeqS (vDrop (vCall F_need_bound (vCons (vVar 2) vNil))) (vSeqS (vDrop (vCall F_need_turn (vCons (vVar 0) (vCons (vVar 2) vNil)))) (vSeqS (vDrop (vCall F_need_number (vCons (vVar 1) vNil))) (vRet (vCall F_led_to (vCons (vVar 0) (vCons (vVar 1) (vCons (vVar 2) vNil))))))))
def F_led : WF := mkF 3 0 b_led
def b__law_led_right : WS := (vSeqS (vAsg 4 (vCall F__law_turn (vCons (vOp oIx (vVar 0) (vC (.int 0))) (vCons (vOp oIx (vVar 0) (vC (.int 1))) vNil)))) (vSeqS (vAsg 5 (vTup (vCons (vCall F__law_number_2 (vCons (vCall F__law_mirror (vCons (vOp oIx (vVar 0) (vC (.int 0))) vNil)) vNil)) (vCons (vCall F__law_number_2 (vCons (vCall F__law_less_2 (vCons (vTup (vCons (vC (.int 0)) (vCons (vC (.int 0)) (vCons (vC (.int 1)) vNil)))) (vCons (vCall F__law_times_2 (vCons (vOp oIx (vVar 0) (vC (.int 0))) (vCons (vOp oIx (vVar 0) (vC (.int 1))) vNil))) vNil))) vNil)) vNil)))) (vSeqS (vIfS (vOr (vTest (vOp oNe (vB oRepr (vCons (vOf (vCons (vCall F_back (vCons (vVar 4) vNil)) (vCons (vCallK F_back kp_1_0 (vCons (vVar 4) vNil)) vNil))) vNil)) (vB oRepr (vCons (vOf (vRep (vCons (vVar 5) vNil) (vC (.int 2)))) vNil)))) (vNot (vTru (vCall F__law_is_turn (vCons (vVar 5) (vCons (vVar 2) vNil)))))) (vRet (vC (.bool false))) vNext) (vSeqS (vAsg 6 (vCallD F_behind [] (vCons (vVar 4) (vCons (vCall F__law_turn (vCons (vOp oIx (vVar 1) (vC (.int 0))) (vCons (vOp oIx (vVar 1) (vC (.int 1))) vNil))) (vCons (vVar 2) vNil))))) (vSeqS (vIfS (vOr (vNot (vTru (vCall F__law_is_turn (vCons (vVar 6) (vCons (vVar 2) vNil))))) (vTest (vOp oNe (vB oRepr (vCons (vCallK F_behind kp_3_210 (vCons (vVar 2) (vCons (vCall F__law_turn (vCons (vOp oIx (vVar 1) (vC (.int 0))) (vCons (vOp oIx (vVar 1) (vC (.int 1))) vNil))) (vCons (vVar 4) vNil)))) vNil)) (vB oRepr (vCons (vVar 6) vNil))))) (vRet (vC (.bool false))) vNext) (vSeqS (vPar 7 8 (vCons (vCall F__law_read_2 (vCons (vOp oIx (vVar 6) (vC (.int 0))) vNil)) (vCons (vCall F__law_read_2 (vCons (vOp oIx (vVar 6) (vC (.int 1))) vNil)) vNil))) (vSeqS (vFor (vSeq (vVar 3)) (vgN 9) (vSeqS (vAsg 10 (vCall F__law_leads (vCons (vOp oIx (vVar 0) (vC (.int 0))) (vCons (vOp oIx (vVar 0) (vC (.int 1))) (vCons (vVar 2) (vCons (vVar 9) vNil)))))) (vSeqS (vIfS (vTest (vOp oNe (vB oRepr (vCons (vOf (vCons (vCallD F_led [] (vCons (vVar 4) (vCons (vCall F__law_number_2 (vCons (vVar 9) vNil)) (vCons (vVar 2) vNil)))) (vCons (vCallK F_led kp_3_210 (vCons (vVar 2) (vCons (vCall F__law_number_2 (vCons (vVar 9) vNil)) (vCons (vVar 4) vNil)))) vNil))) vNil)) (vB oRepr (vCons (vOf (vRep (vCons (vCall F__law_maybe (vCons (vVar 10) vNil)) vNil) (vC (.int 2)))) vNil)))) (vRet (vC (.bool false))) vNext) (vSeqS (vIfS (vAnd (vTest (vOp oNotN (vVar 10) (vC (.none)))) (vTest (vOp oNe (vB oRepr (vCons (vCallD F_led [] (vCons (vVar 5) (vCons (vCall F__law_number_2 (vCons (vVar 10) vNil)) (vCons (vVar 2) vNil)))) vNil)) (vB oRepr (vCons (vCall F__law_number_2 (vCons (vVar 9) vNil)) vNil))))) (vRet (vC (.bool false))) vNext) (vSeqS (vIfS (vAnd (vTest (vOp oNotN (vVar 10) (vC (.none)))) (vTest (vOp oNe (vCall F__law_leads (vCons (vVar 7) (vCons (vVar 8) (vCons (vVar 2) (vCons (vVar 9) vNil))))) (vCall F__law_leads (vCons (vOp oIx (vVar 1) (vC (.int 0))) (vCons (vOp oIx (vVar 1) (vC (.int 1))) (vCons (vVar 2) (vCons (vVar 10) vNil)))))))) (vRet (vC (.bool false))) vNext) (vIfS (vAnd (vTest (vOp oNotN (vVar 10) (vC (.none)))) (vTest (vOp oNe (vB oRepr (vCons (vCallD F_led [] (vCons (vVar 6) (vCons (vCall F__law_number_2 (vCons (vVar 9) vNil)) (vCons (vVar 2) vNil)))) vNil)) (vB oRepr (vCons (vCall F__law_maybe (vCons (vCall F__law_leads (vCons (vVar 7) (vCons (vVar 8) (vCons (vVar 2) (vCons (vVar 9) vNil))))) vNil)) vNil))))) (vRet (vC (.bool false))) vNext)))))) (vRet (vC (.bool true))))))))))
def F__law_led_right : WF := mkF 4 7 b__law_led_right
def b__law_right_47 (a : Addr) : WS := (vSeqS (vAsg 1 (vIf (vTest (vOp oEq (vCallQ 0 a F__law_draw (vCons (vC (.int 3)) vNil)) (vC (.int 0)))) (vTup (vCons (vC (.int 1)) (vCons (vC (.int 1)) vNil))) (vCallQ 0 a F__law_bound vNil))) (vSeqS (vPar 2 3 (vCons (vCallQ 0 a F__law_drawn_turn (vCons (vVar 1) vNil)) (vCons (vCallQ 0 a F__law_drawn_turn (vCons (vVar 1) vNil)) vNil))) (vSeqS (vAsg 4 (vCall F__law_turn (vCons (vOp oIx (vVar 2) (vC (.int 0))) (vCons (vOp oIx (vVar 2) (vC (.int 1))) vNil)))) (vSeqS (vIfS (vTest (vOp oNe (vB oRepr (vCons (vOf (vCons (vCallD F_is_turn [] (vCons (vVar 4) (vCons (vVar 1) vNil))) (vCons (vCallK F_is_turn kp_2_10 (vCons (vVar 1) (vCons (vVar 4) vNil))) vNil))) vNil)) (vB oRepr (vCons (vOf (vCons (vC (.bool true)) (vCons (vC (.bool true)) vNil))) vNil)))) (vRet (vC (.bool false))) vNext) (vSeqS (vIfS (vNot (vTru (vCall F__law_led_right (vCons (vVar 2) (vCons (vVar 3) (vCons (vVar 1) (vCons (vCallQ 0 a F__law_numbers (vCons (vOp oIx (vVar 2) (vC (.int 1))) (vCons (vVar 1) vNil))) vNil))))))) (vRet (vC (.bool false))) vNext) (vSeqS (vAsgG (vCall F__law_turn_rows (vCons (vOp oIx (vVar 2) (vC (.int 0))) (vCons (vOp oIx (vVar 2) (vC (.int 1))) (vCons (vVar 1) vNil)))) (vgT 2 (vgCons (vgN 5) (vgCons (vgN 6) vgNil)))) (vSeqS (vAsg 7 (vCall F__law_quotient (vCons (vCall F__law_row_cut (vCons (vVar 5) vNil)) (vCons (vCall F__law_row_cut (vCons (vVar 6) vNil)) vNil)))) (vSeqS (vIfS (vTest (vOp oNe (vB oRepr (vCons (vOf (vCons (vCallD F_turn_quotient [] (vCons (vVar 4) (vCons (vVar 1) vNil))) (vCons (vCallK F_turn_quotient kp_2_10 (vCons (vVar 1) (vCons (vVar 4) vNil))) vNil))) vNil)) (vB oRepr (vCons (vOf (vCons (vVar 7) (vCons (vVar 7) vNil))) vNil)))) (vRet (vC (.bool false))) vNext) (vSeqS (vAsg 8 (vCallQ 0 a F__law_drawn_turn (vCons (vTup (vCons (vC (.int 1)) (vCons (vC (.int 1)) vNil))) vNil))) (vSeqS (vPar 9 10 (vCons (vCall F__law_turn (vCons (vOp oIx (vVar 8) (vC (.int 0))) (vCons (vOp oIx (vVar 8) (vC (.int 1))) vNil))) (vCons (vCallQ 0 a F__law_place_2 vNil) vNil))) (vSeqS (vIfS (vOr (vTest (vOp oNotN (vCallD F_is_turn [.tuple [.int 1, .int 1]] (vCons (vVar 9) vNil)) (vC (.bool true)))) (vTest (vOp oNe (vB oRepr (vCons (vCallD F_led [.tuple [.int 1, .int 1]] (vCons (vVar 9) (vCons (vCall F__law_number_2 (vCons (vVar 10) vNil)) vNil))) vNil)) (vB oRepr (vCons (vCall F__law_maybe (vCons (vCall F__law_leads (vCons (vOp oIx (vVar 8) (vC (.int 0))) (vCons (vOp oIx (vVar 8) (vC (.int 1))) (vCons (vTup (vCons (vC (.int 1)) (vCons (vC (.int 1)) vNil))) (vCons (vVar 10) vNil))))) vNil)) vNil))))) (vRet (vC (.bool false))) vNext) (vSeqS (vIfS (vTest (vOp oNe (vB oRepr (vCons (vCallD F_is_turn [.tuple [.int 1, .int 1]] (vCons (vVar 4) vNil)) vNil)) (vB oRepr (vCons (vCall F__law_is_turn (vCons (vVar 4) (vCons (vTup (vCons (vC (.int 1)) (vCons (vC (.int 1)) vNil))) vNil))) vNil)))) (vRet (vC (.bool false))) vNext) (vRet (vOp oEq (vB oRepr (vCons (vOf (vCons (vCallD F_behind [.tuple [.int 1, .int 1]] (vCons (vVar 9) (vCons (vVar 9) vNil))) (vCons (vCallD F_turn_quotient [.tuple [.int 1, .int 1]] (vCons (vVar 9) vNil)) vNil))) vNil)) (vB oRepr (vCons (vOf (vCons (vCallD F_behind [] (vCons (vVar 9) (vCons (vVar 9) (vCons (vTup (vCons (vC (.int 1)) (vCons (vC (.int 1)) vNil))) vNil)))) (vCons (vCallD F_turn_quotient [] (vCons (vVar 9) (vCons (vTup (vCons (vC (.int 1)) (vCons (vC (.int 1)) vNil))) vNil))) vNil))) vNil))))))))))))))))
def F__law_right_47 : Addr → WF := mkQ 1 10 b__law_right_47
def b_law_47 : WS := (vSeqS (vFor (vR1 (vCons (vB oMax (vCons (vC (.int 3)) (vCons (vB oMin (vCons (vB oLen (vCons (vVar 0) vNil)) (vCons (vC (.int 4)) vNil))) vNil))) vNil)) (vgN 1) (vIfS (vNot (vTru (vTurnC F__law_right_47 (vCons (vVar 0) (vCons (vVar 1) vNil))))) (vRet (vC (.bool false))) vNext)) (vRet (vC (.bool true))))
end Rim
namespace Rim
open PySem PySem.Spec PyProof.Rows L2
def top (i : Nat) : Stmt := PySem.Challenge.pw_withinrim_k46_whole_turns_led_back_and_b.main.body.getD i (.Pass ⟨0, 0, 0, 0⟩)
abbrev s_reduced : Stmt := top 10
abbrev s_fraction_plus : Stmt := top 11
abbrev s_fraction_less : Stmt := top 12
abbrev s_fraction_times : Stmt := top 13
abbrev s_order : Stmt := top 14
abbrev s_number_from : Stmt := top 15
abbrev s_plus : Stmt := top 16
abbrev s_less : Stmt := top 17
abbrev s_times : Stmt := top 18
abbrev s_mirror : Stmt := top 19
abbrev s_size_of : Stmt := top 20
abbrev s_scaled : Stmt := top 21
abbrev s_part_of : Stmt := top 22
abbrev s_over : Stmt := top 23
abbrev s_trimmed : Stmt := top 24
abbrev s_series_over : Stmt := top 25
abbrev s_series_led : Stmt := top 26
abbrev s_is_whole : Stmt := top 28
abbrev s_is_fraction : Stmt := top 29
abbrev s_is_number : Stmt := top 30
abbrev s_is_bound : Stmt := top 31
abbrev s_need_bound : Stmt := top 32
abbrev s_need_number : Stmt := top 33
abbrev s_is_any_turn : Stmt := top 35
abbrev s_is_turn_for : Stmt := top 36
abbrev s_need_turn : Stmt := top 37
abbrev s_led_to : Stmt := top 38
abbrev s_back_of : Stmt := top 39
abbrev s_one_turn : Stmt := top 40
abbrev s_is_turn : Stmt := top 41
abbrev s_led : Stmt := top 42
abbrev s_back : Stmt := top 43
abbrev s_behind : Stmt := top 44
abbrev s_turn_quotient : Stmt := top 45
abbrev s__law_pot : Stmt := top 47
abbrev s__law_draw : Stmt := top 48
abbrev s__law_pick : Stmt := top 49
abbrev s__law_common : Stmt := top 50
abbrev s__law_cut : Stmt := top 51
abbrev s__law_less : Stmt := top 52
abbrev s__law_times : Stmt := top 53
abbrev s__law_mirror : Stmt := top 54
abbrev s__law_over : Stmt := top 55
abbrev s__law_size : Stmt := top 56
abbrev s__law_is_nought : Stmt := top 57
abbrev s__law_fraction : Stmt := top 58
abbrev s__law_number : Stmt := top 59
abbrev s__law_real : Stmt := top 60
abbrev s__law_line : Stmt := top 61
abbrev s__law_is_fraction : Stmt := top 62
abbrev s__law_is_number : Stmt := top 63
abbrev s__law_read : Stmt := top 64
abbrev s__law_is_line : Stmt := top 65
abbrev s__law_gauss : Stmt := top 66
abbrev s__law_root : Stmt := top 67
abbrev s__law_place : Stmt := top 68
abbrev s__law_bound : Stmt := top 69
abbrev s__law_within : Stmt := top 70
abbrev s__law_unit : Stmt := top 71
abbrev s__law_row_cut : Stmt := top 72
abbrev s__law_quotient : Stmt := top 73
abbrev s__law_turn_rows : Stmt := top 74
abbrev s__law_leads : Stmt := top 75
abbrev s__law_drawn_turn : Stmt := top 76
abbrev s__law_turn : Stmt := top 77
abbrev s__law_below : Stmt := top 78
abbrev s__law_is_turn : Stmt := top 79
abbrev s__law_maybe : Stmt := top 80
abbrev s__law_numbers : Stmt := top 81
abbrev s__law_led_right : Stmt := top 82
abbrev s__law_right : Stmt := top 83
abbrev s_law : Stmt := top 84
def d_reduced : He.DefD := ⟨("reduced", none), "reduced", "reduced", defArgs s_reduced, defBody s_reduced, defScope s_reduced, [], []⟩
def d_fraction_plus : He.DefD := ⟨("fraction_plus", none), "fraction_plus", "fraction_plus", defArgs s_fraction_plus, defBody s_fraction_plus, defScope s_fraction_plus, [], []⟩
def d_fraction_less : He.DefD := ⟨("fraction_less", none), "fraction_less", "fraction_less", defArgs s_fraction_less, defBody s_fraction_less, defScope s_fraction_less, [], []⟩
def d_fraction_times : He.DefD := ⟨("fraction_times", none), "fraction_times", "fraction_times", defArgs s_fraction_times, defBody s_fraction_times, defScope s_fraction_times, [], []⟩
def d_order : He.DefD := ⟨("order", none), "order", "order", defArgs s_order, defBody s_order, defScope s_order, [], []⟩
def d_number_from : He.DefD := ⟨("number_from", none), "number_from", "number_from", defArgs s_number_from, defBody s_number_from, defScope s_number_from, [], []⟩
def d_plus : He.DefD := ⟨("plus", none), "plus", "plus", defArgs s_plus, defBody s_plus, defScope s_plus, [], []⟩
def d_less : He.DefD := ⟨("less", none), "less", "less", defArgs s_less, defBody s_less, defScope s_less, [], []⟩
def d_times : He.DefD := ⟨("times", none), "times", "times", defArgs s_times, defBody s_times, defScope s_times, [], []⟩
def d_mirror : He.DefD := ⟨("mirror", none), "mirror", "mirror", defArgs s_mirror, defBody s_mirror, defScope s_mirror, [], []⟩
def d_size_of : He.DefD := ⟨("size_of", none), "size_of", "size_of", defArgs s_size_of, defBody s_size_of, defScope s_size_of, [], []⟩
def d_scaled : He.DefD := ⟨("scaled", none), "scaled", "scaled", defArgs s_scaled, defBody s_scaled, defScope s_scaled, [], []⟩
def d_part_of : He.DefD := ⟨("part_of", none), "part_of", "part_of", defArgs s_part_of, defBody s_part_of, defScope s_part_of, [], []⟩
def d_over : He.DefD := ⟨("over", none), "over", "over", defArgs s_over, defBody s_over, defScope s_over, [], []⟩
def d_trimmed : He.DefD := ⟨("trimmed", none), "trimmed", "trimmed", defArgs s_trimmed, defBody s_trimmed, defScope s_trimmed, [], []⟩
def d_series_over : He.DefD := ⟨("series_over", none), "series_over", "series_over", defArgs s_series_over, defBody s_series_over, defScope s_series_over, [], []⟩
def d_series_led : He.DefD := ⟨("series_led", none), "series_led", "series_led", defArgs s_series_led, defBody s_series_led, defScope s_series_led, [], []⟩
def d_is_whole : He.DefD := ⟨("is_whole", none), "is_whole", "is_whole", defArgs s_is_whole, defBody s_is_whole, defScope s_is_whole, [], []⟩
def d_is_fraction : He.DefD := ⟨("is_fraction", none), "is_fraction", "is_fraction", defArgs s_is_fraction, defBody s_is_fraction, defScope s_is_fraction, [], []⟩
def d_is_number : He.DefD := ⟨("is_number", none), "is_number", "is_number", defArgs s_is_number, defBody s_is_number, defScope s_is_number, [], []⟩
def d_is_bound : He.DefD := ⟨("is_bound", none), "is_bound", "is_bound", defArgs s_is_bound, defBody s_is_bound, defScope s_is_bound, [], []⟩
def d_need_bound : He.DefD := ⟨("need_bound", none), "need_bound", "need_bound", defArgs s_need_bound, defBody s_need_bound, defScope s_need_bound, [], []⟩
def d_need_number : He.DefD := ⟨("need_number", none), "need_number", "need_number", defArgs s_need_number, defBody s_need_number, defScope s_need_number, [], []⟩
def d_is_any_turn : He.DefD := ⟨("is_any_turn", none), "is_any_turn", "is_any_turn", defArgs s_is_any_turn, defBody s_is_any_turn, defScope s_is_any_turn, [], []⟩
def d_is_turn_for : He.DefD := ⟨("is_turn_for", none), "is_turn_for", "is_turn_for", defArgs s_is_turn_for, defBody s_is_turn_for, defScope s_is_turn_for, [], []⟩
def d_need_turn : He.DefD := ⟨("need_turn", none), "need_turn", "need_turn", defArgs s_need_turn, defBody s_need_turn, defScope s_need_turn, [], []⟩
def d_led_to : He.DefD := ⟨("led_to", none), "led_to", "led_to", defArgs s_led_to, defBody s_led_to, defScope s_led_to, [], []⟩
def d_back_of : He.DefD := ⟨("back_of", none), "back_of", "back_of", defArgs s_back_of, defBody s_back_of, defScope s_back_of, [], []⟩
def d_one_turn : He.DefD := ⟨("one_turn", none), "one_turn", "one_turn", defArgs s_one_turn, defBody s_one_turn, defScope s_one_turn, [], []⟩
def d_is_turn : He.DefD := ⟨("is_turn", none), "is_turn", "is_turn", defArgs s_is_turn, defBody s_is_turn, defScope s_is_turn, [.adr (He.dflAt ("is_turn", none) 0)], []⟩
def d_led : He.DefD := ⟨("led", none), "led", "led", defArgs s_led, defBody s_led, defScope s_led, [.adr (He.dflAt ("led", none) 0)], []⟩
def d_back : He.DefD := ⟨("back", none), "back", "back", defArgs s_back, defBody s_back, defScope s_back, [], []⟩
def d_behind : He.DefD := ⟨("behind", none), "behind", "behind", defArgs s_behind, defBody s_behind, defScope s_behind, [.adr (He.dflAt ("behind", none) 0)], []⟩
def d_turn_quotient : He.DefD := ⟨("turn_quotient", none), "turn_quotient", "turn_quotient", defArgs s_turn_quotient, defBody s_turn_quotient, defScope s_turn_quotient, [.adr (He.dflAt ("turn_quotient", none) 0)], []⟩
def d__law_pot : He.DefD := ⟨("_law_pot", none), "_law_pot", "_law_pot", defArgs s__law_pot, defBody s__law_pot, defScope s__law_pot, [], []⟩
def d__law_draw : He.DefD := ⟨("_law_draw", none), "_law_draw", "_law_draw", defArgs s__law_draw, defBody s__law_draw, defScope s__law_draw, [], []⟩
def d__law_pick : He.DefD := ⟨("_law_pick", none), "_law_pick", "_law_pick", defArgs s__law_pick, defBody s__law_pick, defScope s__law_pick, [], []⟩
def d__law_common : He.DefD := ⟨("_law_common", none), "_law_common", "_law_common", defArgs s__law_common, defBody s__law_common, defScope s__law_common, [], []⟩
def d__law_cut : He.DefD := ⟨("_law_cut", none), "_law_cut", "_law_cut", defArgs s__law_cut, defBody s__law_cut, defScope s__law_cut, [], []⟩
def d__law_less : He.DefD := ⟨("_law_less", none), "_law_less", "_law_less", defArgs s__law_less, defBody s__law_less, defScope s__law_less, [], []⟩
def d__law_times : He.DefD := ⟨("_law_times", none), "_law_times", "_law_times", defArgs s__law_times, defBody s__law_times, defScope s__law_times, [], []⟩
def d__law_mirror : He.DefD := ⟨("_law_mirror", none), "_law_mirror", "_law_mirror", defArgs s__law_mirror, defBody s__law_mirror, defScope s__law_mirror, [], []⟩
def d__law_over : He.DefD := ⟨("_law_over", none), "_law_over", "_law_over", defArgs s__law_over, defBody s__law_over, defScope s__law_over, [], []⟩
def d__law_size : He.DefD := ⟨("_law_size", none), "_law_size", "_law_size", defArgs s__law_size, defBody s__law_size, defScope s__law_size, [], []⟩
def d__law_is_nought : He.DefD := ⟨("_law_is_nought", none), "_law_is_nought", "_law_is_nought", defArgs s__law_is_nought, defBody s__law_is_nought, defScope s__law_is_nought, [], []⟩
def d__law_fraction : He.DefD := ⟨("_law_fraction", none), "_law_fraction", "_law_fraction", defArgs s__law_fraction, defBody s__law_fraction, defScope s__law_fraction, [], []⟩
def d__law_number : He.DefD := ⟨("_law_number", none), "_law_number", "_law_number", defArgs s__law_number, defBody s__law_number, defScope s__law_number, [], []⟩
def d__law_real : He.DefD := ⟨("_law_real", none), "_law_real", "_law_real", defArgs s__law_real, defBody s__law_real, defScope s__law_real, [], []⟩
def d__law_line : He.DefD := ⟨("_law_line", none), "_law_line", "_law_line", defArgs s__law_line, defBody s__law_line, defScope s__law_line, [], []⟩
def d__law_is_fraction : He.DefD := ⟨("_law_is_fraction", none), "_law_is_fraction", "_law_is_fraction", defArgs s__law_is_fraction, defBody s__law_is_fraction, defScope s__law_is_fraction, [], []⟩
def d__law_is_number : He.DefD := ⟨("_law_is_number", none), "_law_is_number", "_law_is_number", defArgs s__law_is_number, defBody s__law_is_number, defScope s__law_is_number, [], []⟩
def d__law_read : He.DefD := ⟨("_law_read", none), "_law_read", "_law_read", defArgs s__law_read, defBody s__law_read, defScope s__law_read, [], []⟩
def d__law_is_line : He.DefD := ⟨("_law_is_line", none), "_law_is_line", "_law_is_line", defArgs s__law_is_line, defBody s__law_is_line, defScope s__law_is_line, [], []⟩
def d__law_gauss : He.DefD := ⟨("_law_gauss", none), "_law_gauss", "_law_gauss", defArgs s__law_gauss, defBody s__law_gauss, defScope s__law_gauss, [], []⟩
def d__law_root : He.DefD := ⟨("_law_root", none), "_law_root", "_law_root", defArgs s__law_root, defBody s__law_root, defScope s__law_root, [], []⟩
def d__law_place : He.DefD := ⟨("_law_place", none), "_law_place", "_law_place", defArgs s__law_place, defBody s__law_place, defScope s__law_place, [], []⟩
def d__law_bound : He.DefD := ⟨("_law_bound", none), "_law_bound", "_law_bound", defArgs s__law_bound, defBody s__law_bound, defScope s__law_bound, [], []⟩
def d__law_within : He.DefD := ⟨("_law_within", none), "_law_within", "_law_within", defArgs s__law_within, defBody s__law_within, defScope s__law_within, [], []⟩
def d__law_unit : He.DefD := ⟨("_law_unit", none), "_law_unit", "_law_unit", defArgs s__law_unit, defBody s__law_unit, defScope s__law_unit, [], []⟩
def d__law_row_cut : He.DefD := ⟨("_law_row_cut", none), "_law_row_cut", "_law_row_cut", defArgs s__law_row_cut, defBody s__law_row_cut, defScope s__law_row_cut, [], []⟩
def d__law_quotient : He.DefD := ⟨("_law_quotient", none), "_law_quotient", "_law_quotient", defArgs s__law_quotient, defBody s__law_quotient, defScope s__law_quotient, [], []⟩
def d__law_turn_rows : He.DefD := ⟨("_law_turn_rows", none), "_law_turn_rows", "_law_turn_rows", defArgs s__law_turn_rows, defBody s__law_turn_rows, defScope s__law_turn_rows, [], []⟩
def d__law_leads : He.DefD := ⟨("_law_leads", none), "_law_leads", "_law_leads", defArgs s__law_leads, defBody s__law_leads, defScope s__law_leads, [], []⟩
def d__law_drawn_turn : He.DefD := ⟨("_law_drawn_turn", none), "_law_drawn_turn", "_law_drawn_turn", defArgs s__law_drawn_turn, defBody s__law_drawn_turn, defScope s__law_drawn_turn, [], []⟩
def d__law_turn : He.DefD := ⟨("_law_turn", none), "_law_turn", "_law_turn", defArgs s__law_turn, defBody s__law_turn, defScope s__law_turn, [], []⟩
def d__law_below : He.DefD := ⟨("_law_below", none), "_law_below", "_law_below", defArgs s__law_below, defBody s__law_below, defScope s__law_below, [], []⟩
def d__law_is_turn : He.DefD := ⟨("_law_is_turn", none), "_law_is_turn", "_law_is_turn", defArgs s__law_is_turn, defBody s__law_is_turn, defScope s__law_is_turn, [], []⟩
def d__law_maybe : He.DefD := ⟨("_law_maybe", none), "_law_maybe", "_law_maybe", defArgs s__law_maybe, defBody s__law_maybe, defScope s__law_maybe, [], []⟩
def d__law_numbers : He.DefD := ⟨("_law_numbers", none), "_law_numbers", "_law_numbers", defArgs s__law_numbers, defBody s__law_numbers, defScope s__law_numbers, [], []⟩
def d__law_led_right : He.DefD := ⟨("_law_led_right", none), "_law_led_right", "_law_led_right", defArgs s__law_led_right, defBody s__law_led_right, defScope s__law_led_right, [], []⟩
def d__law_right : He.DefD := ⟨("_law_right", none), "_law_right", "_law_right", defArgs s__law_right, defBody s__law_right, defScope s__law_right, [], []⟩
def d_law : He.DefD := ⟨("law", none), "law", "law", defArgs s_law, defBody s_law, defScope s_law, [], []⟩
def fns_0 : List He.DefD := [d_reduced, d_fraction_plus, d_fraction_less, d_fraction_times, d_order, d_number_from, d_plus, d_less, d_times, d_mirror]
def fns_1 : List He.DefD := [d_size_of, d_scaled, d_part_of, d_over, d_trimmed, d_series_over, d_series_led, d_is_whole, d_is_fraction, d_is_number]
def fns_2 : List He.DefD := [d_is_bound, d_need_bound, d_need_number, d_is_any_turn, d_is_turn_for, d_need_turn, d_led_to, d_back_of, d_one_turn, d_is_turn]
def fns_3 : List He.DefD := [d_led, d_back, d_behind, d_turn_quotient, d__law_pot, d__law_draw, d__law_pick, d__law_common, d__law_cut, d__law_less]
def fns_4 : List He.DefD := [d__law_times, d__law_mirror, d__law_over, d__law_size, d__law_is_nought, d__law_fraction, d__law_number, d__law_real, d__law_line, d__law_is_fraction]
def fns_5 : List He.DefD := [d__law_is_number, d__law_read, d__law_is_line, d__law_gauss, d__law_root, d__law_place, d__law_bound, d__law_within, d__law_unit, d__law_row_cut]
def fns_6 : List He.DefD := [d__law_quotient, d__law_turn_rows, d__law_leads, d__law_drawn_turn, d__law_turn, d__law_below, d__law_is_turn, d__law_maybe, d__law_numbers, d__law_led_right]
def fns_7 : List He.DefD := [d__law_right, d_law]
def fns : List He.DefD := fns_0 ++ (fns_1 ++ (fns_2 ++ (fns_3 ++ (fns_4 ++ (fns_5 ++ (fns_6 ++ (fns_7)))))))
def fas_0 : List He.Fa := [.glo "reduced", .glo "fraction_plus", .glo "fraction_less", .glo "fraction_times", .glo "order", .glo "number_from", .glo "plus", .glo "less", .glo "times", .glo "mirror"]
def fas_1 : List He.Fa := [.glo "size_of", .glo "scaled", .glo "part_of", .glo "over", .glo "trimmed", .glo "series_over", .glo "series_led", .glo "is_whole", .glo "is_fraction", .glo "is_number"]
def fas_2 : List He.Fa := [.glo "is_bound", .glo "need_bound", .glo "need_number", .glo "is_any_turn", .glo "is_turn_for", .glo "need_turn", .glo "led_to", .glo "back_of", .glo "one_turn", .glo "is_turn"]
def fas_3 : List He.Fa := [.glo "led", .glo "back", .glo "behind", .glo "turn_quotient", .glo "_law_pot", .glo "_law_draw", .glo "_law_pick", .glo "_law_common", .glo "_law_cut", .glo "_law_less"]
def fas_4 : List He.Fa := [.glo "_law_times", .glo "_law_mirror", .glo "_law_over", .glo "_law_size", .glo "_law_is_nought", .glo "_law_fraction", .glo "_law_number", .glo "_law_real", .glo "_law_line", .glo "_law_is_fraction"]
def fas_5 : List He.Fa := [.glo "_law_is_number", .glo "_law_read", .glo "_law_is_line", .glo "_law_gauss", .glo "_law_root", .glo "_law_place", .glo "_law_bound", .glo "_law_within", .glo "_law_unit", .glo "_law_row_cut"]
def fas_6 : List He.Fa := [.glo "_law_quotient", .glo "_law_turn_rows", .glo "_law_leads", .glo "_law_drawn_turn", .glo "_law_turn", .glo "_law_below", .glo "_law_is_turn", .glo "_law_maybe", .glo "_law_numbers", .glo "_law_led_right"]
def fas_7 : List He.Fa := [.glo "_law_right", .glo "law", .free "abs", .free "bool", .free "divmod", .free "enumerate", .free "int", .free "isinstance", .free "len", .free "max"]
def fas_8 : List He.Fa := [.free "min", .free "range", .free "repr", .free "tuple"]
def fas : List He.Fa := fas_0 ++ (fas_1 ++ (fas_2 ++ (fas_3 ++ (fas_4 ++ (fas_5 ++ (fas_6 ++ (fas_7 ++ (fas_8))))))))
def names_0 : List Str := ["__name__", "RimError", "InvalidFraction", "InvalidNumber", "InvalidTurn", "ONE", "NOUGHT", "UNIT", "reduced", "fraction_plus"]
def names_1 : List Str := ["fraction_less", "fraction_times", "order", "number_from", "plus", "less", "times", "mirror", "size_of", "scaled"]
def names_2 : List Str := ["part_of", "over", "trimmed", "series_over", "series_led", "is_whole", "is_fraction", "is_number", "is_bound", "need_bound"]
def names_3 : List Str := ["need_number", "is_any_turn", "is_turn_for", "need_turn", "led_to", "back_of", "one_turn", "is_turn", "led", "back"]
def names_4 : List Str := ["behind", "turn_quotient", "_law_pot", "_law_draw", "_law_pick", "_law_common", "_law_cut", "_law_less", "_law_times", "_law_mirror"]
def names_5 : List Str := ["_law_over", "_law_size", "_law_is_nought", "_law_fraction", "_law_number", "_law_real", "_law_line", "_law_is_fraction", "_law_is_number", "_law_read"]
def names_6 : List Str := ["_law_is_line", "_law_gauss", "_law_root", "_law_place", "_law_bound", "_law_within", "_law_unit", "_law_row_cut", "_law_quotient", "_law_turn_rows"]
def names_7 : List Str := ["_law_leads", "_law_drawn_turn", "_law_turn", "_law_below", "_law_is_turn", "_law_maybe", "_law_numbers", "_law_led_right", "_law_right"]
def names : List Str := names_0 ++ (names_1 ++ (names_2 ++ (names_3 ++ (names_4 ++ (names_5 ++ (names_6 ++ (names_7)))))))
def cons : List (Str × PyData) := [("ONE", c_ONE), ("NOUGHT", c_NOUGHT), ("UNIT", c_UNIT)]
def imps : List (Str × String) := [("gcd", "math.gcd")]
def dfts : List ((Str × Nat) × PyData) := [(("is_turn", 0), .tuple [.int 1, .int 1]), (("led", 0), .tuple [.int 1, .int 1]), (("behind", 0), .tuple [.int 1, .int 1]), (("turn_quotient", 0), .tuple [.int 1, .int 1])]
abbrev Rw : PySem.W.OpenRow := PySem.W.OpenLaw.row PySem.Challenge.rw_withinrim_k46_whole_turns_led_back_and_b
abbrev hk : PySem.W.Hook := He.hookX 4 fas fns [] [] (exB2 cons imps dfts)
def ob (s : PySem.W.SharedT) : He.AlX := He.obsX 4 fas fns [] [] (exB2 cons imps dfts) (HandSHeadRun.getT s)
theorem ob_eq (s : PySem.W.SharedT) : ob s = hk.obs s.abs := He.obsX_eq (HandSHeadRun.getT_eq s)
/-- the whole run's three sights, one by one: the kernel keeps less at a time -/
theorem three_maps {α β γ δ : Type} {o : Option α} {f : α → β} {g : α → γ} {h : α → δ} {a : β} {b : γ} {c : δ} (p : o.map f = some a) (q : o.map g = some b) (r : o.map h = some c) : o.map (fun x => (f x, g x, h x)) = some (a, b, c) := by
  cases o with
  | none => cases p
  | some x =>
    cases p
    cases q
    cases r
    rfl
theorem runC (w : World) : (HandSHeadRun.wholeF (fun p => HandSHeadRun.stepQ (HandSHeadRun.denQ HandSHeadRun.tabQ) p w) HandSHeadRun.fenceQ 6000 Rw.prog).map (fun x => ob x.2) = some (hk.val w) := by
  kernel_rfl
theorem runA (w : World) : (HandSHeadRun.wholeF (fun p => HandSHeadRun.stepQ (HandSHeadRun.denQ HandSHeadRun.tabQ) p w) HandSHeadRun.fenceQ 6000 Rw.prog).map (fun x => HandSHeadRun.looksF Rw.prog x.1.heap x.2.abs) = some true := by
  kernel_rfl
theorem runB (w : World) : (HandSHeadRun.wholeF (fun p => HandSHeadRun.stepQ (HandSHeadRun.denQ HandSHeadRun.tabQ) p w) HandSHeadRun.fenceQ 6000 Rw.prog).map (fun x => HandSHeadRun.seenQ (PySem.W.view Rw.prog [0, 84]) names (importedModules Rw.prog.main.body) (fun s => PySem.W.xlAt (PySem.W.view Rw.prog [0, 84]) [] s && PySem.W.recOk Rw.toRowW.records s) x.2.abs) = some (PySem.W.openGood (PySem.W.view Rw.prog [0, 84]) names) := by
  kernel_rfl
theorem run (w : World) : HandSHeadRun.RunEqI Rw (PySem.W.view Rw.prog [0, 84]) hk ob 6000 names w := by
  have e := three_maps (runA w) (runB w) (runC w)
  unfold HandSHeadRun.RunEqI
  exact e

end Rim
namespace Rim
open PySem PySem.Spec L2
/-! QA: fractions, numbers, triples: what is true of them. -/

/-! ### what the program's arithmetic comes to -/
theorem gcd_ne (n m : Int) (h : m ≠ 0) : ((Nat.gcd n.natAbs m.natAbs : Nat) : Int) ≠ 0 := by
  have h1 : 0 < Nat.gcd n.natAbs m.natAbs := Nat.gcd_pos_of_pos_right _ (Int.natAbs_pos.mpr h)
  omega
theorem gcd_bd {k : Nat} (n m : Int) (h : m ≠ 0) (hb : Bd k m) : Bd k ((Nat.gcd n.natAbs m.natAbs : Nat) : Int) := by
  refine Bd.le ?_ hb
  rw [Int.natAbs_natCast]
  exact Nat.gcd_le_right _ (Int.natAbs_pos.mpr h)
theorem red_end_neg (n m : Int) (h : m < 0) : PyData.tuple [.int (n.fdiv (-((Nat.gcd n.natAbs m.natAbs : Nat) : Int))), .int (m.fdiv (-((Nat.gcd n.natAbs m.natAbs : Nat) : Int)))] = fr (qd n m) := by
  have z := red_neg n m h
  rw [z.1, z.2]
theorem red_end_pos (n m : Int) (h0 : m ≠ 0) (h : ¬ m < 0) : PyData.tuple [.int (n.fdiv ((Nat.gcd n.natAbs m.natAbs : Nat) : Int)), .int (m.fdiv ((Nat.gcd n.natAbs m.natAbs : Nat) : Int))] = fr (qd n m) := by
  have z := red_pos n m (by omega)
  rw [z.1, z.2]
def ordI (x y : Rat) : Int := if x = y then 0 else if x < y then -1 else 1
theorem q_num (q : Rat) : (q.num : Rat) = q * ((q.den : Int) : Rat) := by
  have h := q_over q
  have h1 := d_ne q
  generalize ((q.den : Int) : Rat) = a at *
  generalize (q.num : Rat) = b at *
  grind
theorem q_eq_iff (x y : Rat) : x.num * y.den = y.num * x.den ↔ x = y := by
  constructor
  · intro h
    have h1 : ((x.num * (y.den : Int) : Int) : Rat) = ((y.num * (x.den : Int) : Int) : Rat) := by rw [h]
    rw [Rat.intCast_mul, Rat.intCast_mul, q_num x, q_num y] at h1
    have h2 := d_ne x
    have h3 := d_ne y
    generalize ((x.den : Int) : Rat) = a at *
    generalize ((y.den : Int) : Rat) = b at *
    grind
  · intro h
    rw [h]
theorem ord_eq (x y : Rat) (h : x.num * y.den = y.num * x.den) : ordI x y = 0 := if_pos ((q_eq_iff x y).mp h)
theorem ord_lt (x y : Rat) (h : ¬ x.num * y.den = y.num * x.den) (k : x.num * y.den < y.num * x.den) : ordI x y = -1 := by
  unfold ordI
  rw [if_neg fun z => h ((q_eq_iff x y).mpr z), if_pos ((Rat.lt_iff x y).mpr k)]
theorem ord_gt (x y : Rat) (h : ¬ x.num * y.den = y.num * x.den) (k : ¬ x.num * y.den < y.num * x.den) : ordI x y = 1 := by
  unfold ordI
  rw [if_neg fun z => h ((q_eq_iff x y).mpr z), if_neg fun z => k ((Rat.lt_iff x y).mp z)]
theorem r_mul {a b p q : Int} : qd (a * b) (p * q) = qd a p * qd b q := (Rat.divInt_mul_divInt a b).symm
theorem c_mul (x y : Cn) : (⟨qd (x.re.num * x.im.den * (y.re.num * y.im.den) - x.im.num * x.re.den * (y.im.num * y.re.den)) (x.re.den * x.im.den * y.re.den * y.im.den),
    qd (x.re.num * x.im.den * (y.im.num * y.re.den) + x.im.num * x.re.den * (y.re.num * y.im.den)) (x.re.den * x.im.den * y.re.den * y.im.den)⟩ : Cn) = x.mul y := by
  have h1 := d_ne x.re
  have h2 := d_ne x.im
  have h3 := d_ne y.re
  have h4 := d_ne y.im
  unfold Cn.mul
  rw [qd_div, qd_div]
  simp only [Rat.intCast_mul, Rat.intCast_add, Rat.intCast_sub, q_num]
  generalize ((x.re.den : Int) : Rat) = a at *
  generalize ((x.im.den : Int) : Rat) = b at *
  generalize ((y.re.den : Int) : Rat) = c at *
  generalize ((y.im.den : Int) : Rat) = d at *
  generalize x.re = e at *
  generalize x.im = f at *
  generalize y.re = g at *
  generalize y.im = h at *
  congr 1
  · grind
  · grind
theorem c_nsq (x : Cn) : qd (x.re.num * x.im.den * (x.re.num * x.im.den) + x.im.num * x.re.den * (x.im.num * x.re.den)) (x.re.den * x.re.den * x.im.den * x.im.den) = x.nsq := by
  have h1 := d_ne x.re
  have h2 := d_ne x.im
  unfold Cn.nsq
  rw [qd_div]
  simp only [Rat.intCast_mul, Rat.intCast_add, q_num]
  generalize ((x.re.den : Int) : Rat) = a at *
  generalize ((x.im.den : Int) : Rat) = b at *
  generalize x.re = e at *
  generalize x.im = f at *
  grind
theorem nsq_nonneg (x : Cn) : 0 ≤ x.nsq := by
  unfold Cn.nsq
  have h1 : 0 ≤ x.re * x.re := by
    rcases Rat.le_total (a := 0) (b := x.re) with h | h
    · exact Rat.mul_nonneg h h
    · have := Rat.mul_nonneg (a := -x.re) (b := -x.re) (by grind) (by grind)
      grind
  have h2 : 0 ≤ x.im * x.im := by
    rcases Rat.le_total (a := 0) (b := x.im) with h | h
    · exact Rat.mul_nonneg h h
    · have := Rat.mul_nonneg (a := -x.im) (b := -x.im) (by grind) (by grind)
      grind
  grind
theorem inv_parts {q : Rat} (h : 0 < q) : (q⁻¹).num = (q.den : Int) ∧ ((q⁻¹).den : Int) = q.num := by
  have hn : 0 < q.num := by
    have z := (Rat.lt_iff 0 q).mp h
    simpa using z
  have e : q⁻¹ = qd (q.den : Int) q.num := by
    rw [qd_div, q_num]
    have h1 := d_ne q
    generalize ((q.den : Int) : Rat) = a at *
    grind
  rw [e]
  have hc : q.num.gcd (q.den : Int) = 1 := q.reduced
  constructor
  · rw [Rat.num_divInt, hc, Int.sign_eq_one_of_pos hn]
    simp
  · rw [Rat.den_divInt, if_neg (by omega), hc]
    simp
    omega
theorem nsq_zero (y : Cn) (h1 : y.re = 0) (h2 : y.im = 0) : y.nsq = 0 := by
  unfold Cn.nsq
  rw [h1, h2]
  grind
theorem nought_nsq (y : Cn) (h : PyData.eqv (nm y) (nm ⟨0, 0⟩) = true) : y.nsq = 0 := by
  have h1 : ((y.re.num == (0 : Rat).num && (((y.re.den : Nat) : Int) == (((0 : Rat).den : Nat) : Int) && true)) && ((y.im.num == (0 : Rat).num && (((y.im.den : Nat) : Int) == (((0 : Rat).den : Nat) : Int) && true)) && true)) = true := h
  simp only [Bool.and_eq_true, beq_iff_eq] at h1
  exact nsq_zero y (Rat.num_eq_zero.mp h1.1.1) (Rat.num_eq_zero.mp h1.2.1.1)
/-! ### the laws' own triples -/
@[reducible] def tri (a b c : Int) : PyData := .tuple [.int a, .int b, .int c]
def Tr (n : Nat) (z : Cn) (d : PyData) : Prop := ∃ a b c : Int, d = tri a b c ∧ 0 < c ∧ Bd n a ∧ Bd n b ∧ Bd n c ∧ z = ⟨qd a c, qd b c⟩
theorem Tr.mono {n m : Nat} {z : Cn} {d : PyData} (h : Tr n z d) (k : n ≤ m) : Tr m z d := by
  obtain ⟨a, b, c, h1, h2, h3, h4, h5, h6⟩ := h
  exact ⟨a, b, c, h1, h2, h3.mono k, h4.mono k, h5.mono k, h6⟩
theorem Tr.cs {n : Nat} {z : Cn} {d : PyData} (h : Tr n z d) : Cs n z := by
  obtain ⟨a, b, c, h1, h2, h3, h4, h5, rfl⟩ := h
  exact ⟨rs_of h3 h5 (by omega), rs_of h4 h5 (by omega)⟩
theorem cast_mul_ne {a b : Int} (h : a * b ≠ 0) : (a : Rat) ≠ 0 ∧ (b : Rat) ≠ 0 :=
  ⟨c_ne fun z => h (by rw [z, Int.zero_mul]), c_ne fun z => h (by rw [z, Int.mul_zero])⟩
theorem qd_cancel (a c g : Int) (h : c * g ≠ 0) : qd (a * g) (c * g) = qd a c := by
  obtain ⟨h1, h2⟩ := cast_mul_ne h
  rw [qd_div, qd_div, Rat.intCast_mul, Rat.intCast_mul]
  grind
theorem cut_core (n : Nat) (a b c g : Int) (hg : g ≠ 0) (ga : g ∣ a) (gb : g ∣ b) (gc : g ∣ c) (h0 : c ≠ 0) (hs : 0 < c.fdiv g) (ha : Bd n a) (hb : Bd n b) (hc : Bd n c) :
    Tr n ⟨qd a c, qd b c⟩ (.tuple [.int (a.fdiv g), .int (b.fdiv g), .int (c.fdiv g)]) := by
  obtain ⟨x, rfl⟩ := ga
  obtain ⟨y, rfl⟩ := gb
  obtain ⟨z, rfl⟩ := gc
  have e : ∀ t : Int, (g * t).fdiv g = t := fun t => Int.mul_fdiv_cancel_left _ hg
  rw [e, e, e]
  rw [e] at hs
  have le : ∀ t : Int, Bd n (g * t) → Bd n t := fun t h => by
    refine Bd.le ?_ h
    rw [Int.natAbs_mul]
    exact Nat.le_mul_of_pos_left _ (Int.natAbs_pos.mpr hg)
  refine ⟨x, y, z, rfl, hs, le x ha, le y hb, le z hc, ?_⟩
  rw [Int.mul_comm g x, Int.mul_comm g y, Int.mul_comm g z]
  rw [qd_cancel x z g (by rw [Int.mul_comm]; exact h0), qd_cancel y z g (by rw [Int.mul_comm]; exact h0)]
theorem gcd3 (a b c : Int) : ((Nat.gcd (((Nat.gcd a.natAbs b.natAbs : Nat) : Int)).natAbs c.natAbs : Nat) : Int) ∣ a ∧ ((Nat.gcd (((Nat.gcd a.natAbs b.natAbs : Nat) : Int)).natAbs c.natAbs : Nat) : Int) ∣ b ∧ ((Nat.gcd (((Nat.gcd a.natAbs b.natAbs : Nat) : Int)).natAbs c.natAbs : Nat) : Int) ∣ c := by
  rw [Int.natAbs_natCast]
  refine ⟨Int.ofNat_dvd_left.mpr ?_, Int.ofNat_dvd_left.mpr ?_, Int.ofNat_dvd_left.mpr ?_⟩
  · exact Nat.dvd_trans (Nat.gcd_dvd_left _ _) (Nat.gcd_dvd_left _ _)
  · exact Nat.dvd_trans (Nat.gcd_dvd_left _ _) (Nat.gcd_dvd_right _ _)
  · exact Nat.gcd_dvd_right _ _
theorem cut_pos (n : Nat) (a b c : Int) (h0 : c ≠ 0) (h : ¬ c < 0) (ha : Bd n a) (hb : Bd n b) (hc : Bd n c) :
    Tr n ⟨qd a c, qd b c⟩ (.tuple [.int (a.fdiv ((Nat.gcd (((Nat.gcd a.natAbs b.natAbs : Nat) : Int)).natAbs c.natAbs : Nat) : Int)), .int (b.fdiv ((Nat.gcd (((Nat.gcd a.natAbs b.natAbs : Nat) : Int)).natAbs c.natAbs : Nat) : Int)), .int (c.fdiv ((Nat.gcd (((Nat.gcd a.natAbs b.natAbs : Nat) : Int)).natAbs c.natAbs : Nat) : Int))]) := by
  obtain ⟨h1, h2, h3⟩ := gcd3 a b c
  have hg := gcd_ne (((Nat.gcd a.natAbs b.natAbs : Nat) : Int)) c h0
  have hp : 0 < ((Nat.gcd (((Nat.gcd a.natAbs b.natAbs : Nat) : Int)).natAbs c.natAbs : Nat) : Int) := by omega
  refine cut_core n a b c _ hg h1 h2 h3 h0 ?_ ha hb hc
  rw [Int.fdiv_eq_ediv_of_nonneg _ (by omega)]
  exact Int.ediv_pos_of_pos_of_dvd (by omega) (by omega) h3
theorem bd_zero {n : Nat} : Bd n 0 := Nat.pow_pos (by decide)
theorem shw_bool {b : Bool} : Shw (.bool b) := by simp only [Shw]
theorem shw_none : Shw .none := by simp only [Shw]
theorem shw_int {i : Int} (h : Bd 1900 i) : Shw (.int i) := by
  simp only [Shw]
  exact h
theorem shw_nil : ShwAll [] := by simp only [ShwAll]
theorem shw_cons {x : PyData} {xs : List PyData} (h : Shw x) (k : ShwAll xs) : ShwAll (x :: xs) := by
  simp only [ShwAll]
  exact ⟨h, k⟩
theorem shw_l {xs : List PyData} (h : ShwAll xs) : Shw (.list xs) := by
  simp only [Shw]
  exact h
theorem shw_t {xs : List PyData} (h : ShwAll xs) : Shw (.tuple xs) := by
  simp only [Shw]
  exact h
theorem shw_fr {q : Rat} (h : Rs 1900 q) : Shw (fr q) := shw_t (shw_cons (shw_int h.num) (shw_cons (shw_int h.den) shw_nil))
theorem shw_nm {z : Cn} (h : Cs 1900 z) : Shw (nm z) := shw_t (shw_cons (shw_fr h.re) (shw_cons (shw_fr h.im) shw_nil))
theorem gcd_start (a b : Int) : (((if a < 0 then -a else a) : Int) = (a.natAbs : Int)) ∧ (((if b < 0 then -b else b) : Int) = (b.natAbs : Int)) := by
  constructor <;> split <;> omega
section
variable (a b c d e f : Int) (h0 : c ≠ 0) (k0 : f ≠ 0)
include h0 k0
theorem tr_add : (⟨qd (a * f + d * c) (c * f), qd (b * f + e * c) (c * f)⟩ : Cn) = Cn.add ⟨qd a c, qd b c⟩ ⟨qd d f, qd e f⟩ := by
  have h1 := c_ne h0
  have h2 := c_ne k0
  unfold Cn.add
  simp only [qd_div, Rat.intCast_mul, Rat.intCast_add]
  congr 1
  · grind
  · grind
theorem tr_sub : (⟨qd (a * f - d * c) (c * f), qd (b * f - e * c) (c * f)⟩ : Cn) = Cn.sub ⟨qd a c, qd b c⟩ ⟨qd d f, qd e f⟩ := by
  have h1 := c_ne h0
  have h2 := c_ne k0
  unfold Cn.sub
  simp only [qd_div, Rat.intCast_mul, Rat.intCast_sub]
  congr 1
  · grind
  · grind
theorem tr_mul : (⟨qd (a * d - b * e) (c * f), qd (a * e + b * d) (c * f)⟩ : Cn) = Cn.mul ⟨qd a c, qd b c⟩ ⟨qd d f, qd e f⟩ := by
  have h1 := c_ne h0
  have h2 := c_ne k0
  unfold Cn.mul
  simp only [qd_div, Rat.intCast_mul, Rat.intCast_sub, Rat.intCast_add]
  congr 1
  · grind
  · grind
theorem tr_div (hn : d * d + e * e ≠ 0) : (⟨qd ((a * d + b * e) * f) (c * (d * d + e * e)), qd ((b * d - a * e) * f) (c * (d * d + e * e))⟩ : Cn) = Cn.div ⟨qd a c, qd b c⟩ ⟨qd d f, qd e f⟩ := by
  have h1 := c_ne h0
  have h2 := c_ne k0
  have h3 := c_ne hn
  rw [Rat.intCast_add, Rat.intCast_mul, Rat.intCast_mul] at h3
  unfold Cn.div Cn.nsq
  simp only [qd_div, Rat.intCast_mul, Rat.intCast_sub, Rat.intCast_add]
  generalize (a : Rat) = a at *
  generalize (b : Rat) = b at *
  generalize (c : Rat) = c at *
  generalize (d : Rat) = d at *
  generalize (e : Rat) = e at *
  generalize (f : Rat) = f at *
  have h4 : d / f * (d / f) + e / f * (e / f) = (d * d + e * e) / (f * f) := by grind
  congr 1
  · rw [h4]
    grind
  · rw [h4]
    grind
end
theorem nsq_int (d e f : Int) (k0 : f ≠ 0) (h : Cn.nsq ⟨qd d f, qd e f⟩ ≠ 0) : d * d + e * e ≠ 0 := by
  intro z
  have h2 : d = 0 ∧ e = 0 := by
    have h3 : 0 ≤ d * d := by
      rcases Int.le_total 0 d with q | q
      · exact Int.mul_nonneg q q
      · exact Int.mul_nonneg_of_nonpos_of_nonpos q q
    have h4 : 0 ≤ e * e := by
      rcases Int.le_total 0 e with q | q
      · exact Int.mul_nonneg q q
      · exact Int.mul_nonneg_of_nonpos_of_nonpos q q
    have h5 : d * d = 0 := by omega
    have h6 : e * e = 0 := by omega
    exact ⟨by rcases Int.mul_eq_zero.mp h5 with q | q <;> exact q, by rcases Int.mul_eq_zero.mp h6 with q | q <;> exact q⟩
  obtain ⟨rfl, rfl⟩ := h2
  apply h
  unfold Cn.nsq
  simp only [qd_div]
  grind
theorem tr_nsq (a b c : Int) (h0 : c ≠ 0) : qd (a * a + b * b) (c * c) = Cn.nsq ⟨qd a c, qd b c⟩ := by
  have h1 := c_ne h0
  unfold Cn.nsq
  simp only [qd_div, Rat.intCast_mul, Rat.intCast_add]
  grind
def Tq (n : Nat) (z : Cn) (d : PyData) : Prop := ∃ a b c : Int, d = tri a b c ∧ 0 < c ∧ Bd n a ∧ Bd n b ∧ Bd n c ∧ z = ⟨qd a c, qd b c⟩ ∧ Nat.gcd (Nat.gcd a.natAbs b.natAbs) c.natAbs = 1
theorem Tq.tr {n : Nat} {z : Cn} {d : PyData} (h : Tq n z d) : Tr n z d := by
  obtain ⟨a, b, c, h1, h2, h3, h4, h5, h6, _⟩ := h
  exact ⟨a, b, c, h1, h2, h3, h4, h5, h6⟩
theorem Tq.mono {n m : Nat} {z : Cn} {d : PyData} (h : Tq n z d) (k : n ≤ m) : Tq m z d := by
  obtain ⟨a, b, c, h1, h2, h3, h4, h5, h6, h7⟩ := h
  exact ⟨a, b, c, h1, h2, h3.mono k, h4.mono k, h5.mono k, h6, h7⟩
theorem Tq.cs {n : Nat} {z : Cn} {d : PyData} (h : Tq n z d) : Cs n z := h.tr.cs
theorem gcd_out {g a b c : Int} (h : Nat.gcd (Nat.gcd (g * a).natAbs (g * b).natAbs) (g * c).natAbs = g.natAbs) (hg : g ≠ 0) : Nat.gcd (Nat.gcd a.natAbs b.natAbs) c.natAbs = 1 := by
  rw [Int.natAbs_mul, Int.natAbs_mul, Int.natAbs_mul, Nat.gcd_mul_left, Nat.gcd_mul_left] at h
  have h1 : 0 < g.natAbs := by omega
  exact Nat.eq_of_mul_eq_mul_left h1 (by rw [h, Nat.mul_one])
theorem cut_red {g a b c : Int} (hg : g ≠ 0) (h1 : g ∣ a) (h2 : g ∣ b) (h3 : g ∣ c) (h : g.natAbs = Nat.gcd (Nat.gcd a.natAbs b.natAbs) c.natAbs) :
    Nat.gcd (Nat.gcd (a.fdiv g).natAbs (b.fdiv g).natAbs) (c.fdiv g).natAbs = 1 := by
  obtain ⟨x, rfl⟩ := h1
  obtain ⟨y, rfl⟩ := h2
  obtain ⟨z, rfl⟩ := h3
  rw [Int.mul_fdiv_cancel_left _ hg, Int.mul_fdiv_cancel_left _ hg, Int.mul_fdiv_cancel_left _ hg]
  exact gcd_out h.symm hg
theorem Tr.red {n : Nat} {z : Cn} {a b c : Int} (h : Tr n z (.tuple [.int a, .int b, .int c])) (k : Nat.gcd (Nat.gcd a.natAbs b.natAbs) c.natAbs = 1) : Tq n z (.tuple [.int a, .int b, .int c]) := by
  obtain ⟨a', b', c', h1, h2, h3, h4, h5, h6⟩ := h
  cases h1
  exact ⟨a, b, c, rfl, h2, h3, h4, h5, h6, k⟩
theorem cutq_pos (n : Nat) (a b c : Int) (h0 : c ≠ 0) (h : ¬ c < 0) (ha : Bd n a) (hb : Bd n b) (hc : Bd n c) :
    Tq n ⟨qd a c, qd b c⟩ (.tuple [.int (a.fdiv ((Nat.gcd (((Nat.gcd a.natAbs b.natAbs : Nat) : Int)).natAbs c.natAbs : Nat) : Int)), .int (b.fdiv ((Nat.gcd (((Nat.gcd a.natAbs b.natAbs : Nat) : Int)).natAbs c.natAbs : Nat) : Int)), .int (c.fdiv ((Nat.gcd (((Nat.gcd a.natAbs b.natAbs : Nat) : Int)).natAbs c.natAbs : Nat) : Int))]) := by
  obtain ⟨h1, h2, h3⟩ := gcd3 a b c
  exact (cut_pos n a b c h0 h ha hb hc).red (cut_red (gcd_ne _ c h0) h1 h2 h3 (by rw [Int.natAbs_natCast, Int.natAbs_natCast]))
theorem sq_nonneg (x : Rat) : 0 ≤ x * x := by
  rcases Rat.le_total (a := 0) (b := x) with h | h
  · exact Rat.mul_nonneg h h
  · have := Rat.mul_nonneg (a := -x) (b := -x) (by grind) (by grind)
    grind
theorem isq_nonneg (x : Int) : 0 ≤ x * x := by
  rcases Int.le_total 0 x with q | q
  · exact Int.mul_nonneg q q
  · exact Int.mul_nonneg_of_nonpos_of_nonpos q q
theorem nsq_mul (x y : Cn) : (x.mul y).nsq = x.nsq * y.nsq := by
  unfold Cn.nsq Cn.mul
  dsimp only
  grind
theorem nsq_conj (x : Cn) : x.conj.nsq = x.nsq := by
  unfold Cn.nsq Cn.conj
  dsimp only
  grind
theorem nsq_div (x y : Cn) (h : y.nsq ≠ 0) : (x.div y).nsq = x.nsq / y.nsq := by
  have e : (x.div y).nsq = (x.mul y.conj).nsq / (y.nsq * y.nsq) := by
    unfold Cn.div Cn.mul Cn.conj
    generalize y.nsq = t at *
    unfold Cn.nsq
    dsimp only
    grind
  rw [e, nsq_mul, nsq_conj]
  grind


/-! QB: numbers as a field; triples with a size, and the one reduced triple of a number. -/
namespace Cn
def zer : Cn := ⟨0, 0⟩
def one : Cn := ⟨1, 0⟩
def ofR (q : Rat) : Cn := ⟨q, 0⟩
def ng (x : Cn) : Cn := ⟨-x.re, -x.im⟩
def inv (x : Cn) : Cn := ⟨x.re / x.nsq, -x.im / x.nsq⟩
def npw (x : Cn) : Nat → Cn
  | 0 => one
  | n + 1 => (npw x n).mul x
def zpw (x : Cn) : Int → Cn
  | .ofNat n => npw x n
  | .negSucc n => inv (npw x (n + 1))
theorem ext' {x y : Cn} (h : x.re = y.re) (k : x.im = y.im) : x = y := by
  cases x
  cases y
  cases h
  cases k
  rfl
end Cn
theorem nsq_zer {x : Cn} (h : x.nsq = 0) : x = Cn.zer := by
  have h1 := sq_nonneg x.re
  have h2 := sq_nonneg x.im
  unfold Cn.nsq at h
  have h3 : x.re * x.re = 0 := by grind
  have h4 : x.im * x.im = 0 := by grind
  exact Cn.ext' (by unfold Cn.zer; grind) (by unfold Cn.zer; grind)
theorem inv_zer : Cn.inv Cn.zer = Cn.zer := by
  unfold Cn.inv Cn.zer Cn.nsq
  exact Cn.ext' (by grind) (by grind)
theorem inv_can {x : Cn} (h : x ≠ Cn.zer) : x.mul x.inv = Cn.one := by
  have h1 : x.nsq ≠ 0 := fun k => h (nsq_zer k)
  unfold Cn.mul Cn.inv Cn.one
  have h2 : x.nsq = x.re * x.re + x.im * x.im := rfl
  generalize x.nsq = N at *
  exact Cn.ext' (by dsimp only; grind) (by dsimp only; grind)
theorem inv_inv' (x : Cn) : x.inv.inv = x := by
  by_cases h : x = Cn.zer
  · rw [h, inv_zer, inv_zer]
  · have h1 : x.nsq ≠ 0 := fun k => h (nsq_zer k)
    have h2 : x.nsq = x.re * x.re + x.im * x.im := rfl
    have h3 : x.inv.nsq = 1 / x.nsq := by
      unfold Cn.inv
      show x.re / x.nsq * (x.re / x.nsq) + -x.im / x.nsq * (-x.im / x.nsq) = _
      generalize x.nsq = N at *
      grind
    have h4 : x.inv.inv = ⟨x.inv.re / x.inv.nsq, -x.inv.im / x.inv.nsq⟩ := rfl
    rw [h4, h3]
    unfold Cn.inv
    generalize x.nsq = N at *
    exact Cn.ext' (by dsimp only; grind) (by dsimp only; grind)
instance : Lean.Grind.CommRing Cn where
  add := Cn.add
  mul := Cn.mul
  natCast := ⟨fun n => ⟨(n : Rat), 0⟩⟩
  ofNat := fun n => ⟨⟨(n : Rat), 0⟩⟩
  nsmul := ⟨fun n x => Cn.mul ⟨(n : Rat), 0⟩ x⟩
  npow := ⟨Cn.npw⟩
  add_zero := fun a => Cn.ext' (show a.re + ((0 : Nat) : Rat) = _ by grind) (show a.im + (0 : Rat) = _ by grind)
  add_comm := fun a b => Cn.ext' (show a.re + b.re = b.re + a.re by grind) (show a.im + b.im = b.im + a.im by grind)
  add_assoc := fun a b c => Cn.ext' (show a.re + b.re + c.re = a.re + (b.re + c.re) by grind) (show a.im + b.im + c.im = a.im + (b.im + c.im) by grind)
  mul_assoc := fun a b c => Cn.ext' (show (a.re * b.re - a.im * b.im) * c.re - (a.re * b.im + a.im * b.re) * c.im = a.re * (b.re * c.re - b.im * c.im) - a.im * (b.re * c.im + b.im * c.re) by grind)
    (show (a.re * b.re - a.im * b.im) * c.im + (a.re * b.im + a.im * b.re) * c.re = a.re * (b.re * c.im + b.im * c.re) + a.im * (b.re * c.re - b.im * c.im) by grind)
  mul_one := fun a => Cn.ext' (show a.re * ((1 : Nat) : Rat) - a.im * 0 = a.re by grind) (show a.re * 0 + a.im * ((1 : Nat) : Rat) = a.im by grind)
  one_mul := fun a => Cn.ext' (show ((1 : Nat) : Rat) * a.re - 0 * a.im = a.re by grind) (show ((1 : Nat) : Rat) * a.im + 0 * a.re = a.im by grind)
  left_distrib := fun a b c => Cn.ext' (show a.re * (b.re + c.re) - a.im * (b.im + c.im) = a.re * b.re - a.im * b.im + (a.re * c.re - a.im * c.im) by grind)
    (show a.re * (b.im + c.im) + a.im * (b.re + c.re) = a.re * b.im + a.im * b.re + (a.re * c.im + a.im * c.re) by grind)
  right_distrib := fun a b c => Cn.ext' (show (a.re + b.re) * c.re - (a.im + b.im) * c.im = a.re * c.re - a.im * c.im + (b.re * c.re - b.im * c.im) by grind)
    (show (a.re + b.re) * c.im + (a.im + b.im) * c.re = a.re * c.im + a.im * c.re + (b.re * c.im + b.im * c.re) by grind)
  zero_mul := fun a => Cn.ext' (show ((0 : Nat) : Rat) * a.re - 0 * a.im = ((0 : Nat) : Rat) by grind) (show ((0 : Nat) : Rat) * a.im + 0 * a.re = 0 by grind)
  mul_zero := fun a => Cn.ext' (show a.re * ((0 : Nat) : Rat) - a.im * 0 = ((0 : Nat) : Rat) by grind) (show a.re * 0 + a.im * ((0 : Nat) : Rat) = 0 by grind)
  pow_zero := fun a => Cn.ext' (show (1 : Rat) = ((1 : Nat) : Rat) by grind) rfl
  pow_succ := fun a n => rfl
  ofNat_succ := fun n => Cn.ext' (show ((n + 1 : Nat) : Rat) = (n : Rat) + ((1 : Nat) : Rat) by grind) (show (0 : Rat) = 0 + 0 by grind)
  ofNat_eq_natCast := fun n => rfl
  nsmul_eq_natCast_mul := fun n a => rfl
  neg := Cn.ng
  sub := Cn.sub
  intCast := ⟨fun n => ⟨(n : Rat), 0⟩⟩
  zsmul := ⟨fun n x => Cn.mul ⟨(n : Rat), 0⟩ x⟩
  neg_add_cancel := fun a => Cn.ext' (show -a.re + a.re = ((0 : Nat) : Rat) by grind) (show -a.im + a.im = 0 by grind)
  sub_eq_add_neg := fun a b => Cn.ext' (show a.re - b.re = a.re + -b.re by grind) (show a.im - b.im = a.im + -b.im by grind)
  neg_zsmul := fun i a => Cn.ext' (show ((-i : Int) : Rat) * a.re - 0 * a.im = -((i : Rat) * a.re - 0 * a.im) by rw [Rat.intCast_neg]; grind) (show ((-i : Int) : Rat) * a.im + 0 * a.re = -((i : Rat) * a.im + 0 * a.re) by rw [Rat.intCast_neg]; grind)
  zsmul_natCast_eq_nsmul := fun n a => rfl
  intCast_ofNat := fun n => rfl
  intCast_neg := fun i => Cn.ext' (show ((-i : Int) : Rat) = -(i : Rat) by rw [Rat.intCast_neg]) (show (0 : Rat) = -0 by grind)
  mul_comm := fun a b => Cn.ext' (show a.re * b.re - a.im * b.im = b.re * a.re - b.im * a.im by grind) (show a.re * b.im + a.im * b.re = b.re * a.im + b.im * a.re by grind)
instance : Lean.Grind.Field Cn where
  inv := Cn.inv
  div := Cn.div
  zpow := ⟨Cn.zpw⟩
  div_eq_mul_inv := fun a b => by
    show Cn.div a b = Cn.mul a (Cn.inv b)
    unfold Cn.div Cn.mul Cn.inv
    generalize b.nsq = N
    exact Cn.ext' (by dsimp only; grind) (by dsimp only; grind)
  zero_ne_one := fun h => absurd (congrArg Cn.re h) (show ¬ (((0 : Nat) : Rat) = ((1 : Nat) : Rat)) by decide)
  inv_zero := inv_zer
  mul_inv_cancel := fun h => inv_can h
  zpow_zero := fun a => rfl
  zpow_succ := fun a n => rfl
  zpow_neg := fun a n => by
    show Cn.zpw a (-n) = Cn.inv (Cn.zpw a n)
    match n with
    | .ofNat 0 => exact Cn.ext' (show (1 : Rat) = 1 / (1 * 1 + 0 * 0) by grind) (show (0 : Rat) = -0 / (1 * 1 + 0 * 0) by grind)
    | .ofNat (n + 1) => rfl
    | .negSucc n => exact (inv_inv' _).symm
/-! ### the field's signs -/
section
variable (x y : Cn)
theorem conj_add : (x + y).conj = x.conj + y.conj := Cn.ext' rfl (show -(x.im + y.im) = -x.im + -y.im by grind)
theorem conj_sub : (x - y).conj = x.conj - y.conj := Cn.ext' rfl (show -(x.im - y.im) = -x.im - -y.im by grind)
theorem conj_mul : (x * y).conj = x.conj * y.conj := Cn.ext' (show x.re * y.re - x.im * y.im = x.re * y.re - -x.im * -y.im by grind) (show -(x.re * y.im + x.im * y.re) = x.re * -y.im + -x.im * y.re by grind)
theorem conj_conj : x.conj.conj = x := Cn.ext' rfl (show - -x.im = x.im by grind)
theorem conj_zero : (0 : Cn).conj = 0 := Cn.ext' rfl (show -(0 : Rat) = 0 by grind)
theorem conj_ofR (q : Rat) : (Cn.ofR q).conj = Cn.ofR q := Cn.ext' rfl (show -(0 : Rat) = 0 by grind)
theorem mul_conj : x * x.conj = Cn.ofR x.nsq := Cn.ext' (show x.re * x.re - x.im * -x.im = x.re * x.re + x.im * x.im by grind) (show x.re * -x.im + x.im * x.re = 0 by grind)
theorem nsq_ne : x.nsq ≠ 0 ↔ x ≠ 0 := ⟨fun h k => h (by rw [k]; show (((0 : Nat) : Rat) * ((0 : Nat) : Rat) + 0 * 0) = 0; grind), fun h k => h (nsq_zer k)⟩
theorem conj_div (h : y ≠ 0) : (x / y).conj = x.conj / y.conj := by
  have h1 : y.conj ≠ 0 := fun k => h (by rw [← conj_conj y, k, conj_zero])
  have h2 : (x / y).conj * y.conj = x.conj := by
    rw [← conj_mul]
    congr 1
    grind
  grind
theorem nsq_mul' : (x * y).nsq = x.nsq * y.nsq := nsq_mul x y
theorem nsq_div' (h : y ≠ 0) : (x / y).nsq = x.nsq / y.nsq := nsq_div x y ((nsq_ne y).mpr h)
theorem nsq_ofR (q : Rat) : (Cn.ofR q).nsq = q * q := by
  show q * q + 0 * 0 = q * q
  grind
theorem ofR_ne {q : Rat} (h : q ≠ 0) : Cn.ofR q ≠ 0 := fun k => h (congrArg Cn.re k)
theorem scale_ofR (q : Rat) : x.scale q = x * Cn.ofR q := Cn.ext' (show x.re * q = x.re * q - x.im * 0 by grind) (show x.im * q = x.re * 0 + x.im * q by grind)
theorem ofR_inv (q : Rat) : Cn.ofR q⁻¹ = (Cn.ofR q)⁻¹ := by
  by_cases h : q = 0
  · rw [h]
    exact Cn.ext' (show (0 : Rat)⁻¹ = 0 / (0 * 0 + 0 * 0) by grind) (show (0 : Rat) = -0 / (0 * 0 + 0 * 0) by grind)
  · exact Cn.ext' (show q⁻¹ = q / (q * q + 0 * 0) by grind) (show (0 : Rat) = -0 / (q * q + 0 * 0) by grind)
end
/-! ### triples with a size -/
def Ts (n : Nat) (z : Cn) : Prop := ∃ a b c : Int, 0 < c ∧ Bd n a ∧ Bd n b ∧ Bd n c ∧ z = ⟨qd a c, qd b c⟩
section
variable {n m : Nat} {x y : Cn}
theorem Ts.mono (h : Ts n x) (k : n ≤ m) : Ts m x := by
  obtain ⟨a, b, c, h0, h1, h2, h3, h4⟩ := h
  exact ⟨a, b, c, h0, h1.mono k, h2.mono k, h3.mono k, h4⟩
theorem Ts.cs (h : Ts n x) : Cs n x := by
  obtain ⟨a, b, c, h0, h1, h2, h3, rfl⟩ := h
  exact ⟨rs_of h1 h3 (by omega), rs_of h2 h3 (by omega)⟩
theorem Cs.ts (h : Cs n x) : Ts (n + n) x := by
  refine ⟨x.re.num * x.im.den, x.im.num * x.re.den, x.re.den * x.im.den, ?_, h.1.1.mul h.2.2, h.2.1.mul h.1.2, h.1.2.mul h.2.2, ?_⟩
  · exact Int.mul_pos (den_pos _) (den_pos _)
  · have e1 : qd (x.re.num * x.im.den) (x.re.den * x.im.den) = x.re := by
      rw [qd_cancel _ _ _ (Int.mul_ne_zero (den_ne _) (den_ne _)), q_self]
    have e2 : qd (x.im.num * x.re.den) (x.re.den * x.im.den) = x.im := by
      rw [Int.mul_comm ((x.re.den : Nat) : Int) ((x.im.den : Nat) : Int), qd_cancel _ _ _ (Int.mul_ne_zero (den_ne _) (den_ne _)), q_self]
    rw [e1, e2]
theorem Ts.add (h : Ts n x) (k : Ts m y) : Ts (n + m + 1) (x + y) := by
  obtain ⟨a, b, c, h0, h1, h2, h3, rfl⟩ := h
  obtain ⟨d, e, f, k0, k1, k2, k3, rfl⟩ := k
  refine ⟨a * f + d * c, b * f + e * c, c * f, Int.mul_pos h0 k0, ((h1.mul k3).add (k1.mul h3)).mono (by omega), ((h2.mul k3).add (k2.mul h3)).mono (by omega), (h3.mul k3).mono (by omega), ?_⟩
  exact (tr_add a b c d e f (by omega) (by omega)).symm
theorem Ts.sub (h : Ts n x) (k : Ts m y) : Ts (n + m + 1) (x - y) := by
  obtain ⟨a, b, c, h0, h1, h2, h3, rfl⟩ := h
  obtain ⟨d, e, f, k0, k1, k2, k3, rfl⟩ := k
  refine ⟨a * f - d * c, b * f - e * c, c * f, Int.mul_pos h0 k0, ((h1.mul k3).sub (k1.mul h3)).mono (by omega), ((h2.mul k3).sub (k2.mul h3)).mono (by omega), (h3.mul k3).mono (by omega), ?_⟩
  exact (tr_sub a b c d e f (by omega) (by omega)).symm
theorem Ts.mul (h : Ts n x) (k : Ts m y) : Ts (n + m + 1) (x * y) := by
  obtain ⟨a, b, c, h0, h1, h2, h3, rfl⟩ := h
  obtain ⟨d, e, f, k0, k1, k2, k3, rfl⟩ := k
  refine ⟨a * d - b * e, a * e + b * d, c * f, Int.mul_pos h0 k0, ((h1.mul k1).sub (h2.mul k2)).mono (by omega), ((h1.mul k2).add (h2.mul k1)).mono (by omega), (h3.mul k3).mono (by omega), ?_⟩
  exact (tr_mul a b c d e f (by omega) (by omega)).symm
theorem sq_sum_pos {d e : Int} (h : d * d + e * e ≠ 0) : 0 < d * d + e * e := by
  have h1 := isq_nonneg d
  have h2 := isq_nonneg e
  omega
theorem Ts.div (h : Ts n x) (k : Ts m y) (hy : y ≠ 0) : Ts (n + m + m + 1) (x / y) := by
  have hn := (nsq_ne y).mpr hy
  obtain ⟨a, b, c, h0, h1, h2, h3, rfl⟩ := h
  obtain ⟨d, e, f, k0, k1, k2, k3, rfl⟩ := k
  have hz := nsq_int d e f (by omega) hn
  refine ⟨(a * d + b * e) * f, (b * d - a * e) * f, c * (d * d + e * e), Int.mul_pos h0 (sq_sum_pos hz), (((h1.mul k1).add (h2.mul k2)).mul k3).mono (by omega), (((h2.mul k1).sub (h1.mul k2)).mul k3).mono (by omega), (h3.mul ((k1.mul k1).add (k2.mul k2))).mono (by omega), ?_⟩
  exact (tr_div a b c d e f (by omega) (by omega) hz).symm
theorem Ts.conj (h : Ts n x) : Ts n x.conj := by
  obtain ⟨a, b, c, h0, h1, h2, h3, rfl⟩ := h
  refine ⟨a, -b, c, h0, h1, h2.neg, h3, ?_⟩
  unfold Cn.conj
  simp only [qd_div, Rat.intCast_neg]
  congr 1
  grind
theorem Ts.scale {q : Rat} (h : Ts n x) (k : Rs m q) : Ts (n + m) (x.scale q) := by
  obtain ⟨a, b, c, h0, h1, h2, h3, rfl⟩ := h
  refine ⟨a * q.num, b * q.num, c * q.den, Int.mul_pos h0 (den_pos q), h1.mul k.1, h2.mul k.1, h3.mul k.2, ?_⟩
  rw [r_mul, r_mul, q_self]
  rfl
theorem Ts.nsq (h : Ts n x) : Rs (n + n + 1) x.nsq := by
  obtain ⟨a, b, c, h0, h1, h2, h3, rfl⟩ := h
  rw [← tr_nsq a b c (by omega)]
  exact rs_of ((h1.mul h1).add (h2.mul h2)|>.mono (by omega)) ((h3.mul h3).mono (by omega)) (Int.mul_ne_zero (by omega) (by omega))
theorem Rs.tsR {q : Rat} (h : Rs n q) : Ts n (Cn.ofR q) := by
  refine ⟨q.num, 0, q.den, den_pos q, h.1, bd_zero, h.2, ?_⟩
  rw [q_self]
  unfold Cn.ofR
  congr 1
  rw [qd_div]
  have := d_ne q
  grind
end
/-! ### the reduced triple -/
theorem tq_ex (z : Cn) : ∃ t : Int × Int × Int, 0 < t.2.2 ∧ z = ⟨qd t.1 t.2.2, qd t.2.1 t.2.2⟩ ∧ Nat.gcd (Nat.gcd t.1.natAbs t.2.1.natAbs) t.2.2.natAbs = 1 := by
  have h : ∃ n, Cs n z := ⟨z.re.num.natAbs + z.re.den + z.im.num.natAbs + z.im.den, by
    have key : ∀ a b : Nat, a ≤ b → a < 2 ^ b := fun a b h => Nat.lt_of_le_of_lt h Nat.lt_two_pow_self
    exact ⟨⟨key _ _ (by omega), key _ _ (by omega)⟩, ⟨key _ _ (by omega), key _ _ (by omega)⟩⟩⟩
  obtain ⟨n, h⟩ := h
  obtain ⟨a, b, c, h0, h1, h2, h3, rfl⟩ := h.ts
  obtain ⟨a', b', c', _, k0, _, _, _, e, g⟩ := cutq_pos _ a b c (by omega) (by omega) h1 h2 h3
  exact ⟨(a', b', c'), k0, e, g⟩
noncomputable def ta (z : Cn) : Int := (Classical.choose (tq_ex z)).1
noncomputable def tb (z : Cn) : Int := (Classical.choose (tq_ex z)).2.1
noncomputable def tc (z : Cn) : Int := (Classical.choose (tq_ex z)).2.2
noncomputable def tq (z : Cn) : PyData := .tuple [.int (ta z), .int (tb z), .int (tc z)]
theorem tc_pos (z : Cn) : 0 < tc z := (Classical.choose_spec (tq_ex z)).1
theorem tq_val (z : Cn) : z = ⟨qd (ta z) (tc z), qd (tb z) (tc z)⟩ := (Classical.choose_spec (tq_ex z)).2.1
theorem tq_gcd (z : Cn) : Nat.gcd (Nat.gcd (ta z).natAbs (tb z).natAbs) (tc z).natAbs = 1 := (Classical.choose_spec (tq_ex z)).2.2
theorem qd_cross {a c d f : Int} (hc : c ≠ 0) (hf : f ≠ 0) (h : qd a c = qd d f) : a * f = d * c := by
  have h1 := c_ne hc
  have h2 := c_ne hf
  rw [qd_div, qd_div] at h
  have h3 : ((a * f : Int) : Rat) = ((d * c : Int) : Rat) := by
    rw [Rat.intCast_mul, Rat.intCast_mul]
    grind
  exact Rat.intCast_inj.mp h3
theorem dvd_of_cross {a b c d e f : Int} (h1 : a * f = d * c) (h2 : b * f = e * c) (g : Nat.gcd (Nat.gcd a.natAbs b.natAbs) c.natAbs = 1) : c.natAbs ∣ f.natAbs := by
  have k1 : c.natAbs ∣ a.natAbs * f.natAbs := ⟨d.natAbs, by rw [← Int.natAbs_mul, h1, Int.natAbs_mul, Nat.mul_comm]⟩
  have k2 : c.natAbs ∣ b.natAbs * f.natAbs := ⟨e.natAbs, by rw [← Int.natAbs_mul, h2, Int.natAbs_mul, Nat.mul_comm]⟩
  have k3 : c.natAbs ∣ c.natAbs * f.natAbs := ⟨f.natAbs, rfl⟩
  have k4 := Nat.dvd_gcd (Nat.dvd_gcd k1 k2) k3
  rw [Nat.gcd_mul_right, Nat.gcd_mul_right, g, Nat.one_mul] at k4
  exact k4
theorem tq_uniq {a b c d e f : Int} (hc : 0 < c) (hf : 0 < f) (h : (⟨qd a c, qd b c⟩ : Cn) = ⟨qd d f, qd e f⟩) (g : Nat.gcd (Nat.gcd a.natAbs b.natAbs) c.natAbs = 1) (g2 : Nat.gcd (Nat.gcd d.natAbs e.natAbs) f.natAbs = 1) : a = d ∧ b = e ∧ c = f := by
  have e1 := qd_cross (by omega) (by omega) (congrArg Cn.re h)
  have e2 := qd_cross (by omega) (by omega) (congrArg Cn.im h)
  have d1 := dvd_of_cross e1 e2 g
  have d2 := dvd_of_cross e1.symm e2.symm g2
  have d3 := Nat.dvd_antisymm d1 d2
  have d4 : c = f := by omega
  subst d4
  exact ⟨Int.eq_of_mul_eq_mul_right (by omega) e1, Int.eq_of_mul_eq_mul_right (by omega) e2, rfl⟩
theorem tq_of {a b c : Int} (hc : 0 < c) (g : Nat.gcd (Nat.gcd a.natAbs b.natAbs) c.natAbs = 1) : PyData.tuple [.int a, .int b, .int c] = tq ⟨qd a c, qd b c⟩ := by
  obtain ⟨h1, h2, h3⟩ := tq_uniq hc (tc_pos _) (tq_val _) g (tq_gcd _)
  unfold tq
  rw [← h1, ← h2, ← h3]
theorem tq_inj {x y : Cn} (h : tq x = tq y) : x = y := by
  unfold tq at h
  injection h with h
  injection h with h1 h
  injection h with h2 h
  injection h with h3 h
  injection h1 with h1
  injection h2 with h2
  injection h3 with h3
  rw [tq_val x, tq_val y, h1, h2, h3]
theorem Ts.bd {n : Nat} {z : Cn} (h : Ts n z) : Bd n (ta z) ∧ Bd n (tb z) ∧ Bd n (tc z) := by
  obtain ⟨a, b, c, h0, h1, h2, h3, e⟩ := h
  obtain ⟨a', b', c', _, k0, k1, k2, k3, e', g⟩ := cutq_pos _ a b c (by omega) (by omega) h1 h2 h3
  obtain ⟨u1, u2, u3⟩ := tq_uniq k0 (tc_pos z) ((e'.symm.trans e.symm).trans (tq_val z)) g (tq_gcd z)
  rw [← u1, ← u2, ← u3]
  exact ⟨k1, k2, k3⟩


/-! QC: what the package's own reckoning comes to. -/
/-! ### how a def is run -/
section
variable {a b c d e : PyData} {r : List PyData} {i k : Int} {Φ : PyData → Prop}
theorem ix10 : oIx (.tuple [a]) (.int 0) Φ = Φ a := rfl
theorem ix20 : oIx (.tuple [a, b]) (.int 0) Φ = Φ a := rfl
theorem ix21 : oIx (.tuple [a, b]) (.int 1) Φ = Φ b := rfl
theorem ix30 : oIx (.tuple [a, b, c]) (.int 0) Φ = Φ a := rfl
theorem ix31 : oIx (.tuple [a, b, c]) (.int 1) Φ = Φ b := rfl
theorem ix32 : oIx (.tuple [a, b, c]) (.int 2) Φ = Φ c := rfl
theorem ix40 : oIx (.tuple [a, b, c, d]) (.int 0) Φ = Φ a := rfl
theorem ix41 : oIx (.tuple [a, b, c, d]) (.int 1) Φ = Φ b := rfl
theorem ix42 : oIx (.tuple [a, b, c, d]) (.int 2) Φ = Φ c := rfl
theorem ix43 : oIx (.tuple [a, b, c, d]) (.int 3) Φ = Φ d := rfl
theorem lx (i : Int) : oIx (.list r) (.int i) Φ = oIx (.tuple r) (.int i) Φ := rfl
theorem x_add : oAdd (.int i) (.int k) Φ = Φ (.int (i + k)) := rfl
theorem x_sub : oSub (.int i) (.int k) Φ = Φ (.int (i - k)) := rfl
theorem x_mul : oMul (.int i) (.int k) Φ = ((CMulX i k ∨ CMul i k) ∧ Φ (.int (i * k))) := rfl
theorem x_div : oDiv (.int i) (.int k) Φ = (CDivX i k ∧ Φ (.int (i.fdiv k))) := rfl
theorem x_mod : oMod (.int i) (.int k) Φ = (0 < k ∧ Φ (.int (i % k))) := rfl
theorem x_lt : oLt (.int i) (.int k) Φ = Φ (.bool (decide (i < k))) := rfl
theorem x_le : oLe (.int i) (.int k) Φ = Φ (.bool (decide (i ≤ k))) := rfl
theorem x_gt : oGt (.int i) (.int k) Φ = Φ (.bool (decide (k < i))) := rfl
theorem x_ge : oGe (.int i) (.int k) Φ = Φ (.bool (decide (k ≤ i))) := rfl
theorem x_eq : oEq (.int i) (.int k) Φ = Φ (.bool (decide (i = k))) := rfl
theorem x_ne : oNe (.int i) (.int k) Φ = Φ (.bool (!decide (i = k))) := rfl
theorem mul9 {n m : Nat} {i j : Int} (h : Bd n i) (k : Bd m j) (z : n + m ≤ 134217728) : CMulX i j ∨ CMul i j := Or.inl (mul_ok h k z)
theorem div9 {n : Nat} {i j : Int} (h : Bd n j) (h0 : j ≠ 0) (z : n ≤ 9000) : CDivX i j := by
  refine ⟨h0, ?_⟩
  have h1 : j.natAbs < 2 ^ 9000 := h.mono z
  have h2 : j.natAbs ≠ 0 := by omega
  exact (Nat.log2_lt h2).mpr h1
end
local macro_rules | `(tactic| walk_at "xs0") => `(tactic| dsimp only [vSeqS, vRet, vRetN, vTup, vCons, vNil, vCall, vCallD, vCallK, vCallQ, vOp, vVar, vC, vOf, vB, vIf, vIfS, vTest, vTru, vNot, vOr, vAnd, vAndV, vOrV, vNotV, vNeg, vAsg, vAsgM, vAsgG, vPar, vPar3, vgT, vgCons, vgN, vgNil, vDrop, vNext, vNever,
  two, three, truD, booD, ends, List.map, List.replicate, List.cons_append, List.nil_append, List.length_cons, List.length_nil, geE, puE, nm, fr, ix10, ix20, ix21, ix30, ix31, ix32, ix40, ix41, ix42, ix43, lx, x_add, x_sub, x_mul, x_div, x_mod, x_lt, x_le, x_gt, x_ge, x_eq, x_ne, Nat.reduceAdd, ifB_t, ifB_f, decide_true, decide_false, Bool.not_true, Bool.not_false])
local macro_rules | `(tactic| walk_at "xs") => `(tactic| (walk_at "xs0"; try simp only [eq_self, true_and]))
local macro_rules | `(tactic| walk_at "bd") => `(tactic| with_reducible first
  | assumption
  | (apply Bd.mul <;> walk_at "bd")
  | (apply Bd.add <;> walk_at "bd")
  | (apply Bd.sub <;> walk_at "bd")
  | (apply Bd.neg <;> walk_at "bd")
  | exact bd_zero
  | exact Rs.num (by assumption)
  | exact Rs.den (by assumption)
  | exact Rs.num (Cs.re (by assumption))
  | exact Rs.num (Cs.im (by assumption))
  | exact Rs.den (Cs.re (by assumption))
  | exact Rs.den (Cs.im (by assumption)))
local macro_rules | `(tactic| walk_at "mu") => `(tactic| exact mul9 (by walk_at "bd") (by walk_at "bd") (by omega))
theorem bd_s {n m : Nat} {i : Int} (h : Bd n i) (k : n ≤ m) : Bd m i := h.mono k
local macro_rules | `(tactic| walk_at "bs") => `(tactic| exact bd_s (by walk_at "bd") (by omega))
section
variable {Φ : PyData → Prop} {n m k : Nat} {x y : Cn} {p q : Rat}
theorem T_reduced {a b : Int} (h0 : b ≠ 0) (hb : Bd n b) (hz : n ≤ 9000) (h : Φ (fr (qd a b))) : F_reduced [.int a, .int b] Φ := by
  unfold F_reduced mkF b_reduced
  refine ⟨rfl, ?_⟩
  walk_at "xs"
  show ifB (decide (b < 0)) _ _
  have hg := gcd_bd a b h0 hb
  have hn := gcd_ne a b h0
  refine ifB_in (fun z => ?_) fun z => ?_
  · walk_at "xs"
    refine ⟨div9 hg.neg (by omega) hz, div9 hg.neg (by omega) hz, ?_⟩
    rw [red_end_neg a b (of_decide_eq_true z)]
    exact h
  · walk_at "xs"
    refine ⟨div9 hg hn hz, div9 hg hn hz, ?_⟩
    rw [red_end_pos a b h0 (of_decide_eq_false z)]
    exact h
theorem T_order (hp : Rs n p) (hq : Rs m q) (hz : n + m ≤ 9000) (h : Φ (.int (ordI p q))) : F_order [fr p, fr q] Φ := by
  unfold F_order mkF b_order
  refine ⟨rfl, ?_⟩
  walk_at "xs"
  refine ⟨by walk_at "mu", by walk_at "mu", ?_⟩
  refine ifB_in (fun z => ?_) fun z => ?_
  · rw [← ord_eq p q (of_decide_eq_true z)]
    exact h
  · refine ifB_in (fun z2 => ?_) fun z2 => ?_
    · rw [ord_lt p q (of_decide_eq_false z) (of_decide_eq_true z2)] at h
      exact h
    · rw [ord_gt p q (of_decide_eq_false z) (of_decide_eq_false z2)] at h
      exact h
theorem T_fplus (hp : Rs n p) (hq : Rs m q) (hz : n + m ≤ 9000) (h : Φ (fr (p + q))) : F_fraction_plus [fr p, fr q] Φ := by
  unfold F_fraction_plus mkF b_fraction_plus
  refine ⟨rfl, ?_⟩
  walk_at "xs"
  refine ⟨by walk_at "mu", by walk_at "mu", by walk_at "mu", ?_⟩
  refine T_reduced (Int.mul_ne_zero (den_ne p) (den_ne q)) (hp.2.mul hq.2) hz ?_
  rw [q_add]
  exact h
theorem T_fless (hp : Rs n p) (hq : Rs m q) (hz : n + m ≤ 9000) (h : Φ (fr (p - q))) : F_fraction_less [fr p, fr q] Φ := by
  unfold F_fraction_less mkF b_fraction_less
  refine ⟨rfl, ?_⟩
  walk_at "xs"
  refine ⟨by walk_at "mu", by walk_at "mu", by walk_at "mu", ?_⟩
  refine T_reduced (Int.mul_ne_zero (den_ne p) (den_ne q)) (hp.2.mul hq.2) hz ?_
  rw [q_sub]
  exact h
theorem T_ftimes (hp : Rs n p) (hq : Rs m q) (hz : n + m ≤ 9000) (h : Φ (fr (p * q))) : F_fraction_times [fr p, fr q] Φ := by
  unfold F_fraction_times mkF b_fraction_times
  refine ⟨rfl, ?_⟩
  walk_at "xs"
  refine ⟨by walk_at "mu", by walk_at "mu", ?_⟩
  refine T_reduced (Int.mul_ne_zero (den_ne p) (den_ne q)) (hp.2.mul hq.2) hz ?_
  rw [q_mul]
  exact h
theorem T_number_from {a b c : Int} (h0 : c ≠ 0) (hb : Bd n c) (hz : n ≤ 9000) (h : Φ (nm ⟨qd a c, qd b c⟩)) : F_number_from [.int a, .int b, .int c] Φ := by
  unfold F_number_from mkF b_number_from
  refine ⟨rfl, ?_⟩
  walk_at "xs"
  exact T_reduced h0 hb hz (T_reduced h0 hb hz h)
theorem T_plus (hx : Cs n x) (hy : Cs m y) (hz : n + m ≤ 9000) (h : Φ (nm (x + y))) : F_plus [nm x, nm y] Φ := by
  unfold F_plus mkF b_plus
  refine ⟨rfl, ?_⟩
  walk_at "xs"
  exact T_fplus hx.1 hy.1 hz (T_fplus hx.2 hy.2 hz h)
theorem T_less (hx : Cs n x) (hy : Cs m y) (hz : n + m ≤ 9000) (h : Φ (nm (x - y))) : F_less [nm x, nm y] Φ := by
  unfold F_less mkF b_less
  refine ⟨rfl, ?_⟩
  walk_at "xs"
  exact T_fless hx.1 hy.1 hz (T_fless hx.2 hy.2 hz h)
theorem T_scaled (hx : Cs n x) (hq : Rs m q) (hz : n + m ≤ 9000) (h : Φ (nm (x * Cn.ofR q))) : F_scaled [nm x, fr q] Φ := by
  unfold F_scaled mkF b_scaled
  refine ⟨rfl, ?_⟩
  walk_at "xs"
  rw [← scale_ofR] at h
  exact T_ftimes hx.1 hq hz (T_ftimes hx.2 hq hz h)
theorem T_times (hx : Cs n x) (hy : Cs m y) (hz : n + n + (m + m) ≤ 9000) (h : Φ (nm (x * y))) : F_times [nm x, nm y] Φ := by
  unfold F_times mkF b_times
  refine ⟨rfl, ?_⟩
  walk_at "xs"
  refine ⟨by walk_at "mu", by walk_at "mu", by walk_at "mu", by walk_at "mu", by walk_at "mu", by walk_at "mu", by walk_at "mu", by walk_at "mu", by walk_at "mu", by walk_at "mu", by walk_at "mu", ?_⟩
  refine T_number_from (n := n + n + m + m) ?_ ?_ (by omega) ?_
  · exact Int.mul_ne_zero (Int.mul_ne_zero (Int.mul_ne_zero (den_ne _) (den_ne _)) (den_ne _)) (den_ne _)
  · walk_at "bd"
  · rw [c_mul]
    exact h
theorem T_mirror (h : Φ (nm x.conj)) : F_mirror [nm x] Φ := by
  unfold F_mirror mkF b_mirror
  refine ⟨rfl, ?_⟩
  walk_at "xs"
  exact h
theorem T_size_of (hx : Cs n x) (hz : n + n + (n + n) ≤ 9000) (h : Φ (fr x.nsq)) : F_size_of [nm x] Φ := by
  unfold F_size_of mkF b_size_of
  refine ⟨rfl, ?_⟩
  walk_at "xs"
  refine ⟨by walk_at "mu", by walk_at "mu", by walk_at "mu", by walk_at "mu", by walk_at "mu", by walk_at "mu", by walk_at "mu", ?_⟩
  refine T_reduced (n := n + n + n + n) ?_ ?_ (by omega) ?_
  · exact Int.mul_ne_zero (Int.mul_ne_zero (Int.mul_ne_zero (den_ne _) (den_ne _)) (den_ne _)) (den_ne _)
  · walk_at "bd"
  · rw [c_nsq]
    exact h
theorem fr_inv (h : 0 < q) : PyData.tuple [.int (q.den : Int), .int q.num] = fr q⁻¹ := by
  obtain ⟨h1, h2⟩ := inv_parts h
  show _ = PyData.tuple [.int (q⁻¹).num, .int ((q⁻¹).den : Int)]
  rw [h1, h2]
theorem Rs.inv (hq : Rs n q) (h : 0 < q) : Rs n q⁻¹ := by
  obtain ⟨h1, h2⟩ := inv_parts h
  exact ⟨by rw [h1]; exact hq.2, by rw [h2]; exact hq.1⟩
end


section
variable {Φ : PyData → Prop} {n m k : Nat} {x y : Cn} {p q : Rat}
theorem div_ofR (x : Cn) (q : Rat) : x * Cn.ofR q⁻¹ = x / Cn.ofR q := by
  rw [ofR_inv]
  generalize Cn.ofR q = y
  grind
theorem T_part_of (hx : Cs n x) (hq : Rs m q) (h0 : 0 < q) (hz : n + m ≤ 9000) (h : Φ (nm (x / Cn.ofR q))) : F_part_of [nm x, fr q] Φ := by
  unfold F_part_of mkF b_part_of
  refine ⟨rfl, ?_⟩
  walk_at "xs"
  rw [fr_inv h0]
  refine T_scaled hx (hq.inv h0) hz ?_
  rw [div_ofR x q]
  exact h
theorem nsq_pos (h : x ≠ 0) : 0 < x.nsq := by
  have h1 := (nsq_ne x).mpr h
  have h2 := nsq_nonneg x
  grind
theorem T_over (hx : Ts n x) (hy : Ts m y) (h0 : y ≠ 0) (h1 : n + n + (m + m) ≤ 9000) (h2 : m + m + (m + m) ≤ 9000) (h3 : n + m + 1 + (m + m + 1) ≤ 9000) (h : Φ (nm (x / y))) : F_over [nm x, nm y] Φ := by
  unfold F_over mkF b_over
  refine ⟨rfl, ?_⟩
  walk_at "xs"
  refine T_size_of hy.cs h2 ?_
  refine ⟨rfl, ?_⟩
  refine T_mirror ?_
  refine T_times hx.cs hy.conj.cs h1 ?_
  have h4 := nsq_pos h0
  have e : PyData.tuple [.int (y.nsq.den : Int), .int y.nsq.num] = fr (y.nsq⁻¹) := fr_inv h4
  rw [e]
  refine T_scaled (hx.mul hy.conj).cs (hy.nsq.inv h4) h3 ?_
  have e2 : x * y.conj * Cn.ofR y.nsq⁻¹ = x / y := by
    rw [ofR_inv, ← mul_conj]
    have h5 : y.conj ≠ 0 := fun k => h0 (by rw [← conj_conj y, k, conj_zero])
    generalize y.conj = z at *
    grind
  rw [e2]
  exact h
end


/-! QE: the laws' own reckoning with triples, their draws. -/
local macro_rules | `(tactic| walk_at "xp") => `(tactic| (dsimp only [vPIx, vPSet, vPPar, intD, pairD, oDivmod, oInt, oAbs, oLen, oGcd, oMax, oMin, vSeqS, vRet, vRetN, vTup, vCons, vNil, vCall, vCallQ, vOp, vVar, vC, vOf, vB, vIf, vIfS, vTest, vTru, vNot, vOr, vAnd, vAndV, vOrV, vNotV, vNeg, vAsg, vAsgM, vAsgG, vPar, vPar3, vDrop, vNext, two, three, truD, booD, ends, List.map, List.replicate, List.cons_append, List.nil_append, List.length_cons, List.length_nil, geE, puE, lx, x_add, x_sub, x_mul, x_div, x_mod, x_lt, x_le, x_gt, x_ge, x_eq, x_ne, ifB_t, ifB_f]; try simp only [eq_self, true_and]))
section
variable {Φ : PyData → Prop} {n m k : Nat} {x y : Cn} {p q : Rat} {A : Addr}
theorem T_draw {many : Int} (h0 : 0 < many) (h1 : many < 1073741824) (h : ∀ r : Int, 0 ≤ r → r < many → Φ (.int r)) : F__law_draw A [.int many] Φ := by
  unfold F__law_draw mkQ b__law_draw
  refine ⟨rfl, ?_⟩
  walk_at "xp"
  have fin : ∀ z : Int, Φ (.int (z % many)) := fun z => h _ (Int.emod_nonneg _ (by omega)) (Int.emod_lt_of_pos _ h0)
  intro a _
  refine ifB_in (fun _ => ?_) fun _ => ?_
  · intro b _
    exact ⟨⟨h0, h1⟩, fun z => absurd z (by decide), fin _⟩
  · intro c _
    refine ⟨fun z => absurd z (by decide), fun y hy => ⟨Or.inr (Or.inr ⟨by decide, by decide⟩), fun c2 _ => ⟨Or.inr (Or.inl ⟨by decide, by decide⟩), by decide, fun _ => ⟨Int.emod_nonneg _ (by decide), Int.lt_trans (Int.emod_lt_of_pos _ (by decide)) (by decide)⟩, ?_⟩⟩⟩
    intro y2 hy2 y3 hy3
    obtain ⟨u1, u2⟩ := hy2 rfl
    obtain ⟨u3, u4⟩ := hy3 rfl
    refine ⟨?_, fun c3 _ => ⟨Or.inr (Or.inl ⟨by decide, by decide⟩), Or.inr (Or.inl ⟨by omega, by omega⟩), ?_, h0, fin _⟩⟩
    · exact ⟨by decide, by decide +kernel⟩
    · exact ⟨by decide, by decide +kernel⟩
theorem common_loop {P : Post} : ∀ (n a b : Nat), b < n → P.N [.d (.int (Nat.gcd a b : Nat)), .d (.int 0)] →
    whW (vTest (vOp oGt (vVar 1) (vC (.int 0)))) (vPar 0 1 (vCons (vVar 1) (vCons (vOp oMod (vB oInt (vCons (vVar 0) vNil)) (vVar 1)) vNil))) n [.d (.int (a : Int)), .d (.int (b : Int))] P
  | 0, _, _, h, _ => absurd h (Nat.not_lt_zero _)
  | n + 1, a, b, h, q => by
    unfold whW
    walk_at "xp"
    refine ifB_in (fun z => ⟨of_decide_eq_true z, ?_⟩) fun z => ?_
    · have hb : 0 < b := by have := of_decide_eq_true z; omega
      have e : (a : Int) % (b : Int) = ((a % b : Nat) : Int) := (Int.natCast_emod a b).symm
      rw [e]
      refine common_loop n b (a % b) (Nat.lt_of_lt_of_le (Nat.mod_lt _ hb) (by omega)) ?_
      rw [Nat.gcd_comm b, ← Nat.gcd_rec, Nat.gcd_comm]
      exact q
    · have hb : b = 0 := by have := of_decide_eq_false z; omega
      subst hb
      rw [Nat.gcd_zero_right] at q
      exact q
theorem T_common {a b : Int} (h : Φ (.int ((Nat.gcd a.natAbs b.natAbs : Nat) : Int))) : F__law_common [.int a, .int b] Φ := by
  unfold F__law_common mkF b__law_common
  refine ⟨rfl, ?_⟩
  walk_at "xp"
  rw [(gcd_start a b).1, (gcd_start a b).2]
  exact ⟨b.natAbs + 1, common_loop _ _ _ (Nat.lt_succ_self _) h⟩
theorem T_cut {a b c : Int} (h0 : 0 < c) (hc : Bd n c) (hz : n ≤ 9000) (h : Φ (tq ⟨qd a c, qd b c⟩)) : F__law_cut_2 [.int a, .int b, .int c] Φ := by
  unfold F__law_cut_2 mkF b__law_cut_2
  refine ⟨rfl, ?_⟩
  walk_at "xp"
  refine T_common (T_common ?_)
  have hn := gcd_ne (((Nat.gcd a.natAbs b.natAbs : Nat) : Int)) c (by omega)
  have hg := gcd_bd (((Nat.gcd a.natAbs b.natAbs : Nat) : Int)) c (by omega) hc
  refine ⟨div9 hg hn hz, div9 hg hn hz, div9 hg hn hz, ?_⟩
  have key : ∃ N, Bd N a ∧ Bd N b ∧ Bd N c := ⟨a.natAbs + b.natAbs + c.natAbs, by
    have key : ∀ a b : Nat, a ≤ b → a < 2 ^ b := fun a b h => Nat.lt_of_le_of_lt h Nat.lt_two_pow_self
    exact ⟨key _ _ (by omega), key _ _ (by omega), key _ _ (by omega)⟩⟩
  obtain ⟨N, ha, hb, hc'⟩ := key
  obtain ⟨a', b', c', e1, k0, _, _, _, e, g⟩ := cutq_pos N a b c (by omega) (by omega) ha hb hc'
  dsimp only
  rw [e1]
  show Φ (.tuple [.int a', .int b', .int c'])
  rw [tq_of k0 g, ← e]
  exact h
/-- a rational as the laws' triple of a pair -/
theorem T_real (h : Φ (tq (Cn.ofR q))) : F__law_real_2 [fr q] Φ := by
  unfold F__law_real_2 mkF b__law_real_2
  refine ⟨rfl, ?_⟩
  walk_at "xs"
  have e : PyData.tuple [.int q.num, .int 0, .int (q.den : Int)] = tq (Cn.ofR q) := by
    rw [tq_of (den_pos q)]
    · congr 1
      rw [q_self, qd_div]
      unfold Cn.ofR
      congr 1
      have := d_ne q
      grind
    · have := q.reduced
      simp only [Int.natAbs_zero, Nat.gcd_zero_right, Int.natAbs_natCast]
      exact this
  rw [e]
  exact h
theorem T_lmul (hx : Ts n x) (hy : Ts m y) (hz : n + m ≤ 9000) (h : Φ (tq (x * y))) : F__law_times_2 [tq x, tq y] Φ := by
  unfold F__law_times_2 mkF b__law_times_2
  refine ⟨rfl, ?_⟩
  obtain ⟨a1, a2, a3⟩ := hx.bd
  obtain ⟨b1, b2, b3⟩ := hy.bd
  unfold tq
  walk_at "xs"
  refine ⟨by walk_at "mu", by walk_at "mu", by walk_at "mu", by walk_at "mu", by walk_at "mu", ?_⟩
  refine T_cut (Int.mul_pos (tc_pos x) (tc_pos y)) (a3.mul b3) hz ?_
  rw [tr_mul _ _ _ _ _ _ (by have := tc_pos x; omega) (by have := tc_pos y; omega), ← tq_val, ← tq_val]
  exact h
theorem T_lless (hx : Ts n x) (hy : Ts m y) (hz : n + m ≤ 9000) (h : Φ (tq (x - y))) : F__law_less_2 [tq x, tq y] Φ := by
  unfold F__law_less_2 mkF b__law_less_2
  refine ⟨rfl, ?_⟩
  obtain ⟨a1, a2, a3⟩ := hx.bd
  obtain ⟨b1, b2, b3⟩ := hy.bd
  unfold tq
  walk_at "xs"
  refine ⟨by walk_at "mu", by walk_at "mu", by walk_at "mu", by walk_at "mu", by walk_at "mu", ?_⟩
  refine T_cut (Int.mul_pos (tc_pos x) (tc_pos y)) (a3.mul b3) hz ?_
  rw [tr_sub _ _ _ _ _ _ (by have := tc_pos x; omega) (by have := tc_pos y; omega), ← tq_val, ← tq_val]
  exact h
theorem tq_sq_ne {y : Cn} (h : y ≠ 0) : ta y * ta y + tb y * tb y ≠ 0 := by
  refine nsq_int _ _ (tc y) (by have := tc_pos y; omega) ?_
  rw [← tq_val]
  exact (nsq_ne y).mpr h
theorem T_lover (hx : Ts n x) (hy : Ts m y) (h0 : y ≠ 0) (hz : n + (m + m + 1) ≤ 9000) (h : Φ (tq (x / y))) : F__law_over_2 [tq x, tq y] Φ := by
  unfold F__law_over_2 mkF b__law_over_2
  refine ⟨rfl, ?_⟩
  obtain ⟨a1, a2, a3⟩ := hx.bd
  obtain ⟨b1, b2, b3⟩ := hy.bd
  have hne := tq_sq_ne h0
  unfold tq
  walk_at "xs"
  refine ⟨by walk_at "mu", by walk_at "mu", by walk_at "mu", by walk_at "mu", by walk_at "mu", by walk_at "mu", by walk_at "mu", by walk_at "mu", by walk_at "mu", ?_⟩
  refine T_cut (n := n + (m + m + 1)) (Int.mul_pos (tc_pos x) (sq_sum_pos hne)) ((a3.mul ((b1.mul b1).add (b2.mul b2))).mono (by omega)) hz ?_
  rw [tr_div _ _ _ _ _ _ (by have := tc_pos x; omega) (by have := tc_pos y; omega) hne, ← tq_val, ← tq_val]
  exact h
theorem T_lmirror (h : Φ (tq x.conj)) : F__law_mirror [tq x] Φ := by
  unfold F__law_mirror mkF b__law_mirror
  refine ⟨rfl, ?_⟩
  have e : PyData.tuple [.int (ta x), .int (-(tb x)), .int (tc x)] = tq x.conj := by
    rw [tq_of (tc_pos x) (by rw [Int.natAbs_neg]; exact tq_gcd x)]
    congr 1
    conv => rhs; rw [tq_val x]
    unfold Cn.conj
    dsimp only
    congr 1
    rw [qd_div, qd_div, Rat.intCast_neg]
    grind
  unfold tq
  walk_at "xs"
  rw [e]
  exact h
theorem T_lsize (hx : Ts n x) (hz : n + n ≤ 9000) (h : Φ (tq (Cn.ofR x.nsq))) : F__law_size_2 [tq x] Φ := by
  unfold F__law_size_2 mkF b__law_size_2
  refine ⟨rfl, ?_⟩
  obtain ⟨a1, a2, a3⟩ := hx.bd
  unfold tq
  walk_at "xs"
  refine ⟨by walk_at "mu", by walk_at "mu", by walk_at "mu", ?_⟩
  have h1 := tc_pos x
  refine T_cut (Int.mul_pos h1 h1) (a3.mul a3) hz ?_
  have e : (⟨qd (ta x * ta x + tb x * tb x) (tc x * tc x), qd 0 (tc x * tc x)⟩ : Cn) = Cn.ofR x.nsq := by
    rw [tr_nsq _ _ _ (by omega), ← tq_val]
    unfold Cn.ofR
    congr 1
    rw [qd_div]
    have := c_ne (show tc x * tc x ≠ 0 from Int.mul_ne_zero (by omega) (by omega))
    grind
  rw [e]
  exact h
theorem tq_zero : (ta x = 0 ∧ tb x = 0) ↔ x = 0 := by
  have h1 := tc_pos x
  have h2 := c_ne (show tc x ≠ 0 by omega)
  have h3 := tq_val x
  constructor
  · rintro ⟨h4, h5⟩
    rw [h3, h4, h5]
    exact Cn.ext' (by show qd 0 (tc x) = ((0 : Nat) : Rat); rw [qd_div]; grind) (by show qd 0 (tc x) = 0; rw [qd_div]; grind)
  · intro h4
    have e1 : qd (ta x) (tc x) = 0 := by
      have := congrArg Cn.re (h3.symm.trans h4)
      exact this
    have e2 : qd (tb x) (tc x) = 0 := by
      have := congrArg Cn.im (h3.symm.trans h4)
      exact this
    rw [qd_div] at e1 e2
    exact ⟨Rat.intCast_eq_zero_iff.mp (by grind), Rat.intCast_eq_zero_iff.mp (by grind)⟩
theorem T_lnought (h : Φ (.bool (decide (ta x = 0 ∧ tb x = 0)))) : F__law_is_nought [tq x] Φ := by
  unfold F__law_is_nought mkF b__law_is_nought
  refine ⟨rfl, ?_⟩
  unfold tq
  walk_at "xs"
  refine ifB_in (fun z => ?_) fun z => ?_
  · have z1 := of_decide_eq_true z
    have e : decide (ta x = 0 ∧ tb x = 0) = decide (tb x = 0) := by simp only [z1, true_and]
    rw [e] at h
    exact h
  · have z1 := of_decide_eq_false z
    have e : decide (ta x = 0 ∧ tb x = 0) = false := decide_eq_false fun k => z1 k.1
    rw [e] at h
    exact h
theorem T_lfraction {a c : Int} (h0 : 0 < c) (hc : Bd n c) (hz : n ≤ 9000) (h : Φ (fr (qd a c))) : F__law_fraction_2 [.int a, .int c] Φ := by
  unfold F__law_fraction_2 mkF b__law_fraction_2
  refine ⟨rfl, ?_⟩
  walk_at "xp"
  refine T_common ?_
  have hn := gcd_ne a c (by omega)
  have hg := gcd_bd a c (by omega) hc
  refine ⟨div9 hg hn hz, div9 hg hn hz, ?_⟩
  dsimp only
  rw [red_end_pos a c (by omega) (by omega)]
  exact h
theorem T_lnumber (hx : Ts n x) (hz : n ≤ 9000) (h : Φ (nm x)) : F__law_number_2 [tq x] Φ := by
  unfold F__law_number_2 mkF b__law_number_2
  refine ⟨rfl, ?_⟩
  obtain ⟨a1, a2, a3⟩ := hx.bd
  have e1 : qd (ta x) (tc x) = x.re := (congrArg Cn.re (tq_val x)).symm
  have e2 : qd (tb x) (tc x) = x.im := (congrArg Cn.im (tq_val x)).symm
  unfold tq
  walk_at "xs"
  refine T_lfraction (tc_pos x) a3 hz (T_lfraction (tc_pos x) a3 hz ?_)
  rw [e1, e2]
  exact h
theorem T_lread (hx : Ts n x) (hz : n + n ≤ 9000) (h : Φ (tq x)) : F__law_read_2 [nm x] Φ := by
  unfold F__law_read_2 mkF b__law_read_2
  refine ⟨rfl, ?_⟩
  have hc := hx.cs
  walk_at "xs"
  refine ⟨by walk_at "mu", by walk_at "mu", by walk_at "mu", ?_⟩
  refine T_cut (Int.mul_pos (den_pos _) (den_pos _)) (hc.1.2.mul hc.2.2) hz ?_
  have e1 : qd (x.re.num * x.im.den) (x.re.den * x.im.den) = x.re := by
    rw [qd_cancel _ _ _ (Int.mul_ne_zero (den_ne _) (den_ne _)), q_self]
  have e2 : qd (x.im.num * x.re.den) (x.re.den * x.im.den) = x.im := by
    rw [Int.mul_comm ((x.re.den : Nat) : Int) ((x.im.den : Nat) : Int), qd_cancel _ _ _ (Int.mul_ne_zero (den_ne _) (den_ne _)), q_self]
  rw [e1, e2]
  exact h
end


/-! QT: how turns of a disc act. -/
theorem mul_ne' {a b : Cn} (h : a ≠ 0) (k : b ≠ 0) : a * b ≠ 0 := by
  intro z
  have e : a = a * b * b⁻¹ := by grind
  rw [z] at e
  apply h
  rw [e]
  grind
/-- what a turn (u, c) of the disc whose radius squared is g makes of z -/
def leadC (u c : Cn) (g : Rat) (z : Cn) : Cn := (u * (z - c)) / (1 - c.conj * z / Cn.ofR g)
section
variable {g : Rat} {u c z w x y : Cn}
/-- the key -/
theorem key_eq (g : Rat) (c z : Cn) : (Cn.ofR g - c.conj * z).nsq = g * (z - c).nsq + (g - c.nsq) * (g - z.nsq) := by
  show (g - (c.re * z.re - -c.im * z.im)) * (g - (c.re * z.re - -c.im * z.im)) + (0 - (c.re * z.im + -c.im * z.re)) * (0 - (c.re * z.im + -c.im * z.re)) =
    g * ((z.re - c.re) * (z.re - c.re) + (z.im - c.im) * (z.im - c.im)) + (g - (c.re * c.re + c.im * c.im)) * (g - (z.re * z.re + z.im * z.im))
  grind
theorem key_pos (hg : 0 < g) (hc : c.nsq < g) (hz : z.nsq < g) : g * (z - c).nsq < (Cn.ofR g - c.conj * z).nsq ∧ 0 < (Cn.ofR g - c.conj * z).nsq := by
  have h1 := key_eq g c z
  have h2 : 0 < (g - c.nsq) * (g - z.nsq) := Rat.mul_pos (by grind) (by grind)
  have h3 : 0 ≤ g * (z - c).nsq := Rat.mul_nonneg (by grind) (nsq_nonneg _)
  constructor
  · grind
  · grind
theorem far_ne (hg : 0 < g) (hc : c.nsq < g) (hz : z.nsq < g) : Cn.ofR g - c.conj * z ≠ 0 := (nsq_ne _).mp (by have := (key_pos hg hc hz).2; grind)
theorem gR_ne (hg : 0 < g) : Cn.ofR g ≠ 0 := ofR_ne (by grind)
theorem den_eq (hg : 0 < g) : 1 - c.conj * z / Cn.ofR g = (Cn.ofR g - c.conj * z) / Cn.ofR g := by
  have h := gR_ne hg
  generalize Cn.ofR g = G at *
  generalize c.conj * z = s at *
  grind
theorem frac_lt {a b g : Rat} (hg : 0 < g) (hb : 0 < b) (h : a < b) : g * a / b < g := by
  have h1 : g * a < g * b := by
    have := Rat.mul_lt_mul_of_pos_left h hg
    exact this
  rw [Rat.div_lt_iff hb]
  exact h1
theorem nsq_neg (a b : Cn) : (a - b).nsq = (b - a).nsq := by
  show (a.re - b.re) * (a.re - b.re) + (a.im - b.im) * (a.im - b.im) = (b.re - a.re) * (b.re - a.re) + (b.im - a.im) * (b.im - a.im)
  grind
end


/-! QU: the turn between two pairs. -/
theorem cancel' {a b c : Cn} (h : c ≠ 0) (k : a * c = b * c) : a = b := by
  have e : a = a * c * c⁻¹ := by grind
  rw [k] at e
  rw [e]
  grind
theorem div_of {a b c : Cn} (h : c ≠ 0) (k : a = b * c) : a / c = b := by
  rw [k]
  grind
section
variable {g : Rat} {u z w x y : Cn}
theorem conj_ne {a : Cn} (h : a ≠ 0) : a.conj ≠ 0 := fun k => h (by rw [← conj_conj a, k, conj_zero])
end


/-! QF: turns, as the package reckons them. -/
section
variable {Φ : PyData → Prop} {n m k l : Nat} {x y z u c : Cn} {p q g : Rat} {A : Addr}
theorem nm_zero : c_NOUGHT = nm 0 := rfl
theorem ts_zero : Ts 1 (0 : Cn) := ⟨0, 0, 1, by decide, by unfold Bd; decide, by unfold Bd; decide, by unfold Bd; decide, by
  exact Cn.ext' (by show ((0 : Nat) : Rat) = qd 0 1; rw [qd_div]; grind) (by show 0 = qd 0 1; rw [qd_div]; grind)⟩
theorem ts_one : Ts 1 (1 : Cn) := ⟨1, 0, 1, by decide, by unfold Bd; decide, by unfold Bd; decide, by unfold Bd; decide, by
  exact Cn.ext' (by show ((1 : Nat) : Rat) = qd 1 1; rw [qd_div]; grind) (by show 0 = qd 0 1; rw [qd_div]; grind)⟩
theorem T_back_of (hu : Ts n u) (hc : Ts m c) (h1 : n + n + (m + m) ≤ 9000) (h : Φ (.tuple [nm u.conj, nm (0 - u * c)])) : F_back_of [.tuple [nm u, nm c]] Φ := by
  unfold F_back_of mkF b_back_of
  refine ⟨rfl, ?_⟩
  walk_at "xs"
  refine T_mirror (T_times hu.cs hc.cs h1 ?_)
  rw [nm_zero]
  exact T_less ts_zero.cs (hu.mul hc).cs (by omega) h
theorem T_over1 (hx : Ts n x) (hy : Ts m y) (h0 : y ≠ 0) (h1 : n + n + (m + m) ≤ 9000) (h2 : m + m + (m + m) ≤ 9000) (h3 : n + m + 1 + (m + m + 1) ≤ 9000) (h : Φ (.tuple [nm (x / y)])) :
    F_series_over [.list [nm x], .list [nm y]] Φ := by
  unfold F_series_over mkF b_series_over
  refine ⟨rfl, ?_⟩
  show (_ ∧ _) ∧ _
  refine ⟨⟨(show -(2 : Int) ^ 62 ≤ 1 by decide), (show (1 : Int) < 2 ^ 62 by decide)⟩, ?_⟩
  show (_ ∧ _ ∧ _ ∧ _) ∧ _
  refine ⟨⟨by decide, by decide, (show -(2 : Int) ^ 62 ≤ 1 by decide), (show (1 : Int) < 2 ^ 62 by decide)⟩, ?_⟩
  show _ ∧ _
  refine ⟨by decide, ?_⟩
  exact T_over hx hy h0 h1 h2 h3 h
theorem T_led1 (hz : Ts n z) (hu : Ts m u) (hc : Ts k c) (hg : Rs l g) (h0 : 0 < g) (hd : 1 - c.conj * z / Cn.ofR g ≠ 0) (s1 : m + m + (n + k + 1 + (n + k + 1)) ≤ 9000) (s2 : (k + l + 2) + (k + l + 2) + (n + n) ≤ 9000)
    (s3 : (m + n + k + 2) + (m + n + k + 2) + ((n + k + l + 5) + (n + k + l + 5)) ≤ 9000) (s4 : 4 * (n + k + l + 5) ≤ 9000) (s5 : (m + n + k + 2) + 3 * (n + k + l + 5) + 2 ≤ 9000)
    (h : Φ (.tuple [nm (leadC u c g z)])) : F_series_led [.tuple [nm z], .tuple [nm u, nm c], fr g] Φ := by
  unfold F_series_led mkF b_series_led
  refine ⟨rfl, ?_⟩
  show _ ∧ _
  refine ⟨rfl, ?_⟩
  refine T_mirror ?_
  refine T_part_of hc.conj.cs hg h0 (by omega) ?_
  show F_less [nm z, nm c] _
  refine T_less hz.cs hc.cs (by omega) ?_
  show _ ∧ _
  refine ⟨(show 1 ≤ sizeLine by rw [sizeLine_eq]; decide), ?_⟩
  show _ ∧ _
  refine ⟨(show 1 ≤ sizeLine by rw [sizeLine_eq]; decide), ?_⟩
  show F_times [nm u, nm (z - c)] _
  refine T_times hu.cs (hz.sub hc).cs (by omega) ?_
  show _ ∧ _
  refine ⟨(show 1 ≤ sizeLine by rw [sizeLine_eq]; decide), ?_⟩
  have td : Ts (k + l) (c.conj / Cn.ofR g) := by
    have e : c.conj / Cn.ofR g = c.conj.scale g⁻¹ := by rw [scale_ofR, div_ofR]
    rw [e]
    exact hc.conj.scale (hg.inv h0)
  show F_less [nm 0, nm (c.conj / Cn.ofR g)] _
  refine T_less ts_zero.cs td.cs (by omega) ?_
  have t2 := ts_zero.sub td
  show F_times [nm (0 - c.conj / Cn.ofR g), nm z] _
  refine T_times t2.cs hz.cs (by omega) ?_
  show F_plus [nm 1, nm ((0 - c.conj / Cn.ofR g) * z)] _
  have t3 := t2.mul hz
  refine T_plus ts_one.cs t3.cs (by omega) ?_
  have e : 1 + (0 - c.conj / Cn.ofR g) * z = 1 - c.conj * z / Cn.ofR g := by
    have := gR_ne h0
    generalize Cn.ofR g = G at *
    grind
  have t4 := ts_one.add t3
  rw [e] at t4
  rw [e]
  show _ ∧ _ ∧ _
  refine ⟨rfl, rfl, ?_⟩
  show ifB (PyData.eqv (nm (1 - c.conj * z / Cn.ofR g)) (nm 0)) _ _
  refine ifB_in (fun w => ?_) fun w => ?_
  · exact absurd (nsq_zer (nought_nsq _ w)) hd
  · refine T_over1 (hu.mul (hz.sub hc)) t4 hd (by omega) (by omega) (by omega) ?_
    exact h
theorem T_led_to (hz : Ts n z) (hu : Ts m u) (hc : Ts k c) (hg : Rs l g) (h0 : 0 < g) (hd : 1 - c.conj * z / Cn.ofR g ≠ 0) (s1 : m + m + (n + k + 1 + (n + k + 1)) ≤ 9000) (s2 : (k + l + 2) + (k + l + 2) + (n + n) ≤ 9000)
    (s3 : (m + n + k + 2) + (m + n + k + 2) + ((n + k + l + 5) + (n + k + l + 5)) ≤ 9000) (s4 : 4 * (n + k + l + 5) ≤ 9000) (s5 : (m + n + k + 2) + 3 * (n + k + l + 5) + 2 ≤ 9000)
    (h : Φ (nm (leadC u c g z))) : F_led_to [.tuple [nm u, nm c], nm z, fr g] Φ := by
  unfold F_led_to mkF b_led_to
  refine ⟨rfl, ?_⟩
  exact T_led1 hz hu hc hg h0 hd s1 s2 s3 s4 s5 h
theorem lead_ts (hz : Ts n z) (hu : Ts m u) (hc : Ts k c) (hg : Rs l g) (h0 : 0 < g) (hd : 1 - c.conj * z / Cn.ofR g ≠ 0) : Ts ((m + (n + k + 1) + 1) + (k + n + 1 + l + 2) + (k + n + 1 + l + 2) + 1) (leadC u c g z) := by
  have e : c.conj * z / Cn.ofR g = (c.conj * z).scale g⁻¹ := by rw [scale_ofR, div_ofR]
  have t1 : Ts (k + n + 1 + l) (c.conj * z / Cn.ofR g) := by
    rw [e]
    exact (hc.conj.mul hz).scale (hg.inv h0)
  have t2 := ts_one.sub t1
  exact ((hu.mul (hz.sub hc)).div t2 hd).mono (by omega)
/-! ### what is asked of what is given -/
theorem T_is_whole {i : Int} (h : Φ (.bool true)) : F_is_whole [.int i] Φ := by
  unfold F_is_whole mkF b_is_whole
  exact ⟨rfl, h⟩
theorem T_is_fraction (h : Φ (.bool true)) : F_is_fraction [fr q] Φ := by
  unfold F_is_fraction mkF b_is_fraction
  refine ⟨rfl, ?_⟩
  show _ ∧ _
  refine ⟨rfl, ?_⟩
  show F_is_whole [.int q.num] _
  refine T_is_whole ?_
  show F_is_whole [.int q.den] _
  refine T_is_whole ?_
  show ifB (decide ((0 : Int) < q.den)) _ _
  rw [decide_eq_true (den_pos q)]
  show Φ (.bool (decide (((Nat.gcd q.num.natAbs ((q.den : Int)).natAbs : Nat) : Int) = 1)))
  have e : Nat.gcd q.num.natAbs ((q.den : Int)).natAbs = 1 := q.reduced
  rw [e]
  exact h
theorem T_is_number (h : Φ (.bool true)) : F_is_number [nm x] Φ := by
  unfold F_is_number mkF b_is_number
  refine ⟨rfl, ?_⟩
  show F_is_fraction [fr x.re] _
  refine T_is_fraction ?_
  show F_is_fraction [fr x.im] _
  exact T_is_fraction h
theorem num_pos (h0 : 0 < g) : 0 < g.num := by
  have h1 := (inv_parts h0).2
  have h2 := den_pos g⁻¹
  omega
theorem T_is_bound (h0 : 0 < g) (h : Φ (.bool true)) : F_is_bound [fr g] Φ := by
  unfold F_is_bound mkF b_is_bound
  refine ⟨rfl, ?_⟩
  show F_is_fraction [fr g] _
  refine T_is_fraction ?_
  show Φ (.bool (decide (0 < g.num)))
  rw [decide_eq_true (num_pos h0)]
  exact h
theorem T_need_bound (h0 : 0 < g) (h : Φ .none) : F_need_bound [fr g] Φ := by
  unfold F_need_bound mkF b_need_bound
  refine ⟨rfl, ?_⟩
  show F_is_bound [fr g] _
  exact T_is_bound h0 h
theorem T_need_number (h : Φ .none) : F_need_number [nm x] Φ := by
  unfold F_need_number mkF b_need_number
  refine ⟨rfl, ?_⟩
  show F_is_number [nm x] _
  exact T_is_number h
theorem ord_lt' {p q : Rat} (h : p < q) : ordI p q = -1 := by
  unfold ordI
  rw [if_neg (by grind), if_pos h]
theorem T_is_any_turn (hu : Ts n u) (h1 : u.nsq = 1) (s1 : 4 * n ≤ 9000) (h : Φ (.bool true)) : F_is_any_turn [.tuple [nm u, nm c]] Φ := by
  unfold F_is_any_turn mkF b_is_any_turn
  refine ⟨rfl, ?_⟩
  show _ ∧ _
  refine ⟨rfl, ?_⟩
  show F_is_number [nm u] _
  refine T_is_number ?_
  show F_is_number [nm c] _
  refine T_is_number ?_
  show F_size_of [nm u] _
  refine T_size_of hu.cs (by omega) ?_
  rw [h1]
  show _ ∧ _ ∧ _
  exact ⟨rfl, rfl, h⟩
theorem T_need_turn (hu : Ts n u) (h1 : u.nsq = 1) (hc : Ts k c) (hg : Rs m g) (hl : c.nsq < g) (s1 : 4 * n ≤ 9000) (s2 : 4 * k ≤ 9000) (s3 : k + k + 1 + m ≤ 9000) (h : Φ .none) : F_need_turn [.tuple [nm u, nm c], fr g] Φ := by
  unfold F_need_turn mkF b_need_turn
  refine ⟨rfl, ?_⟩
  show F_is_turn_for [.tuple [nm u, nm c], fr g] _
  unfold F_is_turn_for mkF b_is_turn_for
  refine ⟨rfl, ?_⟩
  show F_is_any_turn [.tuple [nm u, nm c]] _
  refine T_is_any_turn hu h1 s1 ?_
  show F_size_of [nm c] _
  refine T_size_of hc.cs (by omega) ?_
  refine T_order hc.nsq hg (by omega) ?_
  rw [ord_lt' hl]
  exact h
end


/-! QG: led, apart, between, as the package reckons them. -/
instance : DecidableEq Cn := fun x y => if h : x.re = y.re ∧ x.im = y.im then isTrue (Cn.ext' h.1 h.2) else isFalse fun k => h (by rw [k]; exact ⟨rfl, rfl⟩)
local macro_rules | `(tactic| walk_at "ys") => `(tactic| (dsimp only [vSeqS, vRet, vRetN, vTup, vCons, vNil, vCall, vCallD, vCallK, vCallQ, vOp, vVar, vC, vOf, vB, vIf, vIfS, vTest, vTru, vNot, vOr, vAnd, vAndV, vOrV, vNotV, vNeg, vAsg, vAsgM, vAsgG, vPar, vPar3, vgT, vgCons, vgN, vgNil, vDrop, vNext, vNever, vFor, forW, vSeq, seD,
  two, three, truD, booD, ends, List.map, List.replicate, List.cons_append, List.nil_append, List.length_cons, List.length_nil, geE, puE, ix10, ix20, ix21, ix30, ix31, ix32, ix40, ix41, ix42, ix43, lx, x_add, x_sub, x_mul, x_div, x_mod, x_lt, x_le, x_gt, x_ge, x_eq, x_ne, Nat.reduceAdd, ifB_t, ifB_f, decide_true, decide_false, Bool.not_true, Bool.not_false]; try simp only [eq_self, true_and]))
section
variable {Φ : PyData → Prop} {n m k l : Nat} {x y z w u c : Cn} {p q g : Rat} {A : Addr}
theorem eqv_fr {p q : Rat} : PyData.eqv (fr p) (fr q) = decide (p = q) := by
  have h : PyData.eqv (fr p) (fr q) = (p.num == q.num && (((p.den : Nat) : Int) == ((q.den : Nat) : Int) && true)) := rfl
  rw [h]
  by_cases e : p = q
  · subst e
    simp
  · rw [decide_eq_false e]
    by_cases h1 : p.num = q.num
    · have h2 : ¬ p.den = q.den := fun h2 => e (Rat.ext h1 h2)
      have h3 : (((p.den : Nat) : Int) == ((q.den : Nat) : Int)) = false := by
        rw [beq_eq_false_iff_ne]
        omega
      rw [h3]
      simp
    · have h3 : (p.num == q.num) = false := by
        rw [beq_eq_false_iff_ne]
        exact h1
      rw [h3]
      rfl
theorem eqv_nm {x y : Cn} : PyData.eqv (nm x) (nm y) = decide (x = y) := by
  have h : PyData.eqv (nm x) (nm y) = (PyData.eqv (fr x.re) (fr y.re) && (PyData.eqv (fr x.im) (fr y.im) && true)) := rfl
  rw [h, eqv_fr, eqv_fr]
  by_cases e : x = y
  · subst e
    simp
  · rw [decide_eq_false e]
    by_cases h1 : x.re = y.re
    · have h2 : ¬ x.im = y.im := fun h2 => e (Cn.ext' h1 h2)
      rw [decide_eq_false h2]
      simp
    · rw [decide_eq_false h1]
      rfl
theorem div_ts (hx : Ts n x) (hg : Rs m g) (h0 : 0 < g) : Ts (n + m) (x / Cn.ofR g) := by
  have e : x / Cn.ofR g = x.scale g⁻¹ := by rw [scale_ofR, div_ofR]
  rw [e]
  exact hx.scale (hg.inv h0)
end


/-! QH: what the laws draw: places, bounds, units. -/
section
variable {Φ : PyData → Prop} {n m k l : Nat} {x y z w u c : Cn} {p q g : Rat} {A : Addr}
theorem at_in {ds : List PyData} {i : Int} (h0 : 0 ≤ i) (h1 : i < ds.length) (h : ∀ d ∈ ds, Φ d) : oIx (.tuple ds) (.int i) Φ := by
  have e : ∃ d, atI ds i = some d ∧ d ∈ ds := by
    unfold atI ixN
    rw [if_pos h0, if_pos h1]
    have hl : i.toNat < ds.length := by omega
    refine ⟨ds[i.toNat], ?_, List.getElem_mem hl⟩
    show ds[i.toNat]? = _
    exact List.getElem?_eq_getElem hl
  obtain ⟨d, e1, e2⟩ := e
  show (match atI ds i with | some d => Φ d | none => False)
  rw [e1]
  exact h d e2
theorem T_pick {ds : List PyData} (h0 : 0 < ds.length) (h1 : ds.length < 1073741824) (h : ∀ d ∈ ds, Φ d) : F__law_pick A [.tuple ds] Φ := by
  unfold F__law_pick mkQ b__law_pick
  refine ⟨rfl, ?_⟩
  show _ ∧ _
  refine ⟨rfl, ?_⟩
  show F__law_draw A [.int ds.length] _
  exact T_draw (by omega) (by omega) fun r h2 h3 => at_in h2 h3 h
theorem fdiv_nat (a b : Nat) : (a : Int).fdiv (b : Int) = ((a / b : Nat) : Int) := by
  rw [Int.fdiv_eq_ediv_of_nonneg _ (Int.natCast_nonneg b)]
  exact (Int.natCast_ediv a b).symm
theorem root_loop {N : Nat} (h1 : 1 ≤ N) (h2 : N < 1048576) {P : Post} (hP : ∀ r y : Nat, 1 ≤ r → r ≤ N → r * r ≤ N → P.N [.d (.int (N : Int)), .d (.int (r : Int)), .d (.int (y : Int))]) : ∀ (k x : Nat), x < k → 1 ≤ x → x ≤ N →
    whW (vTest (vOp oLt (vVar 2) (vVar 1))) (vPar 1 2 (vCons (vVar 2) (vCons (vOp oDiv (vOp oAdd (vVar 2) (vOp oDiv (vVar 0) (vVar 2))) (vC (.int 2))) vNil))) k [.d (.int (N : Int)), .d (.int (x : Int)), .d (.int (((x + N / x) / 2 : Nat) : Int))] P
  | 0, _, h, _, _ => absurd h (Nat.not_lt_zero _)
  | k + 1, x, h, hx, hN => by
    unfold whW
    walk_at "xp"
    have hq : 1 ≤ N / x := (Nat.le_div_iff_mul_le hx).mpr (by omega)
    generalize hy : (x + N / x) / 2 = y
    have hy1 : 1 ≤ y := by omega
    refine ifB_in (fun e => ?_) fun e => ?_
    · have e1 : y < x := by have := of_decide_eq_true e; omega
      rw [fdiv_nat N y]
      have e2 : (y : Int) + ((N / y : Nat) : Int) = ((y + N / y : Nat) : Int) := by omega
      rw [e2]
      refine ⟨div9 (n := 20) (show (y : Int).natAbs < 2 ^ 20 by omega) (by omega) (by decide), ⟨by decide, by decide +kernel⟩, ?_⟩
      have e3 := fdiv_nat (y + N / y) 2
      show whW _ _ k [.d (.int (N : Int)), .d (.int (y : Int)), .d (.int (((y + N / y : Nat) : Int).fdiv ((2 : Nat) : Int)))] P
      rw [e3]
      exact root_loop h1 h2 hP k y (by omega) hy1 (by omega)
    · have e1 : ¬ y < x := by have := of_decide_eq_false e; omega
      refine hP x y hx hN ?_
      have e2 : x ≤ N / x := by omega
      exact (Nat.le_div_iff_mul_le hx).mp e2
theorem T_root {N : Nat} (h1 : 1 ≤ N) (h2 : N < 1048576) (h : ∀ r : Nat, 1 ≤ r → r ≤ N → r * r ≤ N → Φ (.int r)) : F__law_root [.int N] Φ := by
  unfold F__law_root mkF b__law_root
  refine ⟨rfl, ?_⟩
  walk_at "xp"
  refine ⟨⟨by decide, by decide +kernel⟩, ?_⟩
  have e : (N : Int) + 1 = ((N + N / N : Nat) : Int) := by rw [Nat.div_self (by omega)]; omega
  rw [e]
  have e3 := fdiv_nat (N + N / N) 2
  refine ⟨N + 1, ?_⟩
  show whW _ _ (N + 1) [.d (.int (N : Int)), .d (.int (N : Int)), .d (.int (((N + N / N : Nat) : Int).fdiv ((2 : Nat) : Int)))] _
  rw [e3]
  exact root_loop h1 h2 (fun r y a b c => h r a b c) (N + 1) N (by omega) h1 (by omega)
/-- a place's form -/
structure Pl (z : Cn) : Prop where
  ex : ∃ a b d : Int, z = ⟨qd a d, qd b d⟩ ∧ -5 < a ∧ a < 5 ∧ -5 < b ∧ b < 5 ∧ 0 < d ∧ d ≤ 10 ∧ a * a + b * b < d * d
theorem sq_bd {a d : Int} (h1 : -d < a) (h2 : a < d) : a * a ≤ (d - 1) * (d - 1) := by
  rcases Int.le_total 0 a with h | h
  · exact Int.mul_le_mul (by omega) (by omega) h (by omega)
  · have e : a * a = (-a) * (-a) := by rw [Int.neg_mul_neg]
    rw [e]
    exact Int.mul_le_mul (by omega) (by omega) (by omega) (by omega)
theorem bd4 {a : Int} (h1 : -16 < a) (h2 : a < 16) : Bd 4 a := by unfold Bd; omega
theorem place_fin {a b d : Int} (hd : 2 ≤ d) (hd2 : d ≤ 5) (a1 : -d < a) (a2 : a < d) (b1 : -d < b) (b2 : b < d) (h : ∀ z, Pl z → Φ (tq z)) :
    (CMulX a a ∨ CMul a a) ∧ (CMulX b b ∨ CMul b b) ∧ (CMulX d d ∨ CMul d d) ∧ ifB (decide (a * a + b * b < d * d)) (F__law_cut_2 [.int a, .int b, .int d] Φ) ((CMulX 2 d ∨ CMul 2 d) ∧ F__law_cut_2 [.int a, .int b, .int (2 * d)] Φ) := by
  have hx : ∀ i j : Int, -16 < i → i < 16 → -16 < j → j < 16 → CMulX i j ∨ CMul i j := fun i j u1 u2 u3 u4 => mul9 (bd4 u1 u2) (bd4 u3 u4) (by decide)
  refine ⟨hx _ _ (by omega) (by omega) (by omega) (by omega), hx _ _ (by omega) (by omega) (by omega) (by omega), hx _ _ (by omega) (by omega) (by omega) (by omega), ?_⟩
  refine ifB_in (fun e => ?_) fun e => ?_
  · exact T_cut (by omega) (bd4 (by omega) (by omega)) (by decide) (h _ ⟨⟨a, b, d, rfl, by omega, by omega, by omega, by omega, by omega, by omega, of_decide_eq_true e⟩⟩)
  · refine ⟨hx _ _ (by omega) (by omega) (by omega) (by omega), T_cut (n := 5) (by omega) (by unfold Bd; omega) (by decide) (h _ ⟨⟨a, b, 2 * d, rfl, by omega, by omega, by omega, by omega, by omega, by omega, ?_⟩⟩)⟩
    have s1 := sq_bd a1 a2
    have s2 := sq_bd b1 b2
    have e1 : (2 * d) * (2 * d) = 4 * (d * d) := by grind
    have e2 : (d - 1) * (d - 1) = d * d - 2 * d + 1 := by grind
    have e3 : 0 ≤ d * d := Int.mul_nonneg (by omega) (by omega)
    rw [e1]
    omega
theorem T_place (h : ∀ z, Pl z → Φ (tq z)) : F__law_place_2 A [] Φ := by
  unfold F__law_place_2 mkQ b__law_place_2
  refine ⟨rfl, ?_⟩
  walk_at "xp"
  refine T_pick (by decide) (by decide) fun d hd => ?_
  have hd' : ∃ i : Int, d = .int i ∧ 2 ≤ i ∧ i ≤ 5 := by
    simp only [List.mem_cons, List.not_mem_nil, or_false] at hd
    rcases hd with rfl | rfl | rfl | rfl | rfl
    · exact ⟨2, rfl, by decide, by decide⟩
    · exact ⟨2, rfl, by decide, by decide⟩
    · exact ⟨3, rfl, by decide, by decide⟩
    · exact ⟨4, rfl, by decide, by decide⟩
    · exact ⟨5, rfl, by decide, by decide⟩
  obtain ⟨i, rfl, i1, i2⟩ := hd'
  walk_at "xp"
  refine ⟨mul9 (n := 2) (m := 3) (by unfold Bd; decide) (by unfold Bd; omega) (by decide), T_draw (by omega) (by omega) fun r r1 r2 => ?_⟩
  walk_at "xp"
  refine T_draw (by decide) (by decide) fun t t1 t2 => ?_
  walk_at "xp"
  refine ifB_in (fun _ => ?_) fun _ => ?_
  · refine ⟨mul9 (n := 2) (m := 3) (by unfold Bd; decide) (by unfold Bd; omega) (by decide), T_draw (by omega) (by omega) fun s s1 s2 => ?_⟩
    walk_at "xp"
    exact place_fin i1 i2 (by omega) (by omega) (by omega) (by omega) h
  · exact place_fin i1 i2 (by omega) (by omega) (by omega) (by omega) h
/-- a bound's form -/
structure Bo (g : Rat) : Prop where
  pos : 0 < g
  num : g.num ≤ 100
  den : (g.den : Int) ≤ 25
  pr : g.num * g.den ≤ 399
theorem Bo.n0 (h : Bo g) : 0 < g.num := by have h1 := (inv_parts h.pos).2; have h2 := den_pos g⁻¹; omega
theorem Bo.rs (h : Bo g) : Rs 7 g := ⟨by have := h.n0; have := h.num; unfold Bd; omega, by have := h.den; have := den_pos g; unfold Bd; omega⟩
def boB (g : Rat) : Bool := decide (0 < g) && decide (g.num ≤ 100) && decide ((g.den : Int) ≤ 25) && decide (g.num * g.den ≤ 399)
theorem bo_of (h : boB g = true) : Bo g := by
  unfold boB at h
  simp only [Bool.and_eq_true, decide_eq_true_eq] at h
  exact ⟨h.1.1.1, h.1.1.2, h.1.2, h.2⟩
theorem bo_all : ∀ a, a < 30 → ∀ b, b < 12 → boB (qd (1 + (a : Nat)) (1 + (b : Nat))) = true := by decide +kernel
theorem T_bound (h : ∀ g, Bo g → Φ (fr g)) : F__law_bound A [] Φ := by
  unfold F__law_bound mkQ b__law_bound
  refine ⟨rfl, ?_⟩
  walk_at "xp"
  refine T_draw (by decide) (by decide) fun r _ _ => ?_
  walk_at "xp"
  refine ifB_in (fun _ => ?_) fun _ => ?_
  · refine T_draw (by decide) (by decide) fun a a1 a2 => ?_
    walk_at "xp"
    refine T_draw (by decide) (by decide) fun b b1 b2 => ?_
    walk_at "xp"
    refine T_lfraction (n := 5) (by omega) (by unfold Bd; omega) (by decide) (h _ ?_)
    have e := bo_all a.toNat (by omega) b.toNat (by omega)
    rw [Int.toNat_of_nonneg a1, Int.toNat_of_nonneg b1] at e
    exact bo_of e
  · refine T_pick (by decide) (by decide) fun d hd => ?_
    simp only [List.mem_cons, List.not_mem_nil, or_false] at hd
    rcases hd with rfl | rfl | rfl | rfl | rfl | rfl | rfl | rfl
    · exact h 1 (bo_of (by decide +kernel))
    · exact h 1 (bo_of (by decide +kernel))
    · exact h 4 (bo_of (by decide +kernel))
    · exact h ⟨1, 4, by decide, by decide⟩ (bo_of (by decide +kernel))
    · exact h ⟨9, 4, by decide, by decide⟩ (bo_of (by decide +kernel))
    · exact h 2 (bo_of (by decide +kernel))
    · exact h 100 (bo_of (by decide +kernel))
    · exact h ⟨1, 25, by decide, by decide⟩ (bo_of (by decide +kernel))
end


/-! QI: the laws' turns. -/
theorem ofR_sub (p q : Rat) : Cn.ofR p - Cn.ofR q = Cn.ofR (p - q) := Cn.ext' rfl (show (0 : Rat) - 0 = 0 by grind)
/-- a drawn number of the disc -/
structure Dz (g : Rat) (z : Cn) : Prop where
  ts : Ts 8 z
  lt : z.nsq < g
/-- a number of the disc, drawn or led -/
structure Dw (g : Rat) (z : Cn) : Prop where
  ts : Ts 75 z
  lt : z.nsq < g
theorem Dz.w {g : Rat} {z : Cn} (h : Dz g z) : Dw g z := ⟨h.ts.mono (by decide), h.lt⟩
structure Un (u : Cn) : Prop where
  ts : Ts 6 u
  un : u.nsq = 1
section
variable {Φ : PyData → Prop} {n m k l : Nat} {x y z w u c : Cn} {p q g : Rat} {A : Addr}
theorem dz_zero (hg : Bo g) : Dz g 0 := ⟨ts_zero.mono (by decide), by
  have e : (0 : Cn).nsq = 0 := by show (((0 : Nat) : Rat) * ((0 : Nat) : Rat) + 0 * 0) = 0; grind
  rw [e]; exact hg.pos⟩
theorem tq_re0 (r d : Int) : (⟨qd r d, qd 0 d⟩ : Cn) = Cn.ofR (qd r d) := by
  unfold Cn.ofR
  congr 1
  rw [qd_div]
  by_cases h : (d : Rat) = 0
  · rw [h]; grind
  · grind
theorem within_dz {g : Rat} {r : Nat} (hg : Bo g) (hz : Pl z) (h1 : 1 ≤ r) (h2 : ((r * r : Nat) : Int) ≤ g.num * g.den) : Dz g (z * Cn.ofR (qd r g.den)) := by
  obtain ⟨a, b, d, rfl, a1, a2, b1, b2, d1, d2, hn⟩ := hz.ex
  have hr : r < 20 := by
    have := hg.pr
    rcases Nat.lt_or_ge r 20 with q | q
    · exact q
    · have := Nat.mul_le_mul q q
      omega
  have hd := hg.den
  have hd0 := den_pos g
  have e : (⟨qd a d, qd b d⟩ : Cn) * Cn.ofR (qd r g.den) = ⟨qd (a * r) (d * g.den), qd (b * r) (d * g.den)⟩ := by
    rw [r_mul, r_mul, ← scale_ofR]
    rfl
  have m1 : ∀ t : Int, -5 < t → t < 5 → -80 < t * r ∧ t * r < 80 := fun t t1 t2 => by
    have : (r : Int) ≤ 19 := by omega
    have u1 : t * r ≤ 4 * r := Int.mul_le_mul_of_nonneg_right (by omega) (by omega)
    have u2 : -4 * r ≤ t * r := Int.mul_le_mul_of_nonneg_right (by omega) (by omega)
    omega
  have m2 : 0 < d * g.den := Int.mul_pos d1 hd0
  have m3 : d * (g.den : Int) ≤ 250 := by
    have : d * (g.den : Int) ≤ 10 * 25 := Int.mul_le_mul d2 hd (by omega) (by decide)
    omega
  constructor
  · refine ⟨a * r, b * r, d * g.den, m2, ?_, ?_, ?_, e⟩
    · have := m1 a a1 a2; unfold Bd; omega
    · have := m1 b b1 b2; unfold Bd; omega
    · unfold Bd; omega
  · rw [nsq_mul', nsq_ofR, ← tr_nsq a b d (by omega)]
    rw [qd_div, qd_div]
    have g1 : g = (g.num : Rat) / ((g.den : Int) : Rat) := q_over g
    have c1 : ((a * a + b * b : Int) : Rat) < ((d * d : Int) : Rat) := Rat.intCast_lt_intCast.mpr hn
    have c2 : (((r * r : Nat) : Int) : Rat) ≤ ((g.num * g.den : Int) : Rat) := Rat.intCast_le_intCast.mpr h2
    have c3 : (0 : Rat) < ((d * d : Int) : Rat) := by
      have : (0 : Int) < d * d := Int.mul_pos d1 d1
      exact Rat.intCast_lt_intCast.mpr this
    have c4 : (0 : Rat) < ((g.den : Int) : Rat) := Rat.intCast_lt_intCast.mpr hd0
    have c5 : (0 : Rat) < (((r * r : Nat) : Int) : Rat) := by
      have : (0 : Int) < ((r * r : Nat) : Int) := by
        have := Nat.mul_pos h1 h1
        omega
      exact Rat.intCast_lt_intCast.mpr this
    have c6 : (((r * r : Nat) : Int) : Rat) = ((r : Int) : Rat) * ((r : Int) : Rat) := by
      rw [Int.natCast_mul, Rat.intCast_mul]
    rw [Rat.intCast_mul] at c2
    generalize ((a * a + b * b : Int) : Rat) = N at *
    generalize ((d * d : Int) : Rat) = D at *
    generalize (((r * r : Nat) : Int) : Rat) = RR at *
    generalize ((r : Int) : Rat) = R at *
    generalize ((g.den : Int) : Rat) = E at *
    generalize (g.num : Rat) = M at *
    have e1 : N / D < 1 := by
      rw [Rat.div_lt_iff c3]
      grind
    have e2 : R / E * (R / E) = RR / (E * E) := by rw [c6]; grind
    have e3 : RR / (E * E) ≤ g := by
      have e4 : RR / (E * E) * (E * E) = RR := by grind
      have e5 : g * (E * E) = M * E := by rw [g1]; grind
      have e6 : 0 < E * E := Rat.mul_pos c4 c4
      rcases (Rat.le_total : RR / (E * E) ≤ g ∨ _) with t | t
      · exact t
      · by_cases t2 : g = RR / (E * E)
        · grind
        · have t3 : g < RR / (E * E) := by grind
          have t4 := Rat.mul_lt_mul_of_pos_right t3 e6
          grind
    have e7 : 0 < RR / (E * E) := by
      rw [Rat.lt_div_iff (Rat.mul_pos c4 c4)]
      grind
    rw [e2]
    have e8 := Rat.mul_lt_mul_of_pos_right e1 e7
    grind
theorem T_within (hg : Bo g) (h : ∀ z, Dz g z → Φ (tq z)) : F__law_within_2 A [fr g] Φ := by
  unfold F__law_within_2 mkQ b__law_within_2
  refine ⟨rfl, ?_⟩
  walk_at "ys"
  refine T_place fun z hz => ?_
  have hr := hg.rs
  refine ⟨mul9 hr.1 hr.2 (by decide), ?_⟩
  have hp := hg.pr
  have hn := Int.mul_pos hg.n0 (den_pos g)
  have e : g.num * (g.den : Int) = (((g.num * g.den).toNat : Nat) : Int) := by omega
  rw [e]
  refine T_root (by omega) (by omega) fun r r1 r2 r3 => ?_
  refine T_cut (den_pos g) hr.2 (by decide) ?_
  rw [tq_re0]
  have hz2 := within_dz hg hz r1 (by omega)
  obtain ⟨a, b, d, rfl, a1, a2, b1, b2, d1, d2, hn⟩ := hz.ex
  have tz : Ts 4 ⟨qd a d, qd b d⟩ := ⟨a, b, d, d1, bd4 (by omega) (by omega), bd4 (by omega) (by omega), bd4 (by omega) (by omega), rfl⟩
  have hq : Rs 9 (qd (r : Int) (g.den : Int)) := rs_of (by unfold Bd; omega) (hr.2.mono (by decide)) (den_ne g)
  exact T_lmul tz hq.tsR (by decide) (h _ hz2)
theorem tq_lit1 (a b : Int) : PyData.tuple [.int a, .int b, .int 1] = tq ⟨qd a 1, qd b 1⟩ := tq_of (by decide) (Nat.gcd_one_right _)
theorem un_fin {m n d : Int} (d0 : 0 < d) (hd : d < 64) (m1 : -64 < m) (m2 : m < 64) (n1 : -64 < n) (n2 : n < 64) (h : m * m + n * n = d * d) : Un ⟨qd m d, qd n d⟩ := by
  refine ⟨⟨m, n, d, d0, by unfold Bd; omega, by unfold Bd; omega, by unfold Bd; omega, rfl⟩, ?_⟩
  rw [← tr_nsq m n d (by omega), h, qd_div]
  have : ((d * d : Int) : Rat) ≠ 0 := c_ne (Int.mul_ne_zero (by omega) (by omega))
  grind
theorem T_unit (h : ∀ u, Un u → Φ (tq u)) : F__law_unit A [] Φ := by
  unfold F__law_unit mkQ b__law_unit
  refine ⟨rfl, ?_⟩
  walk_at "xp"
  refine T_draw (by decide) (by decide) fun r _ _ => ?_
  walk_at "xp"
  refine ifB_in (fun _ => ?_) fun _ => ?_
  · refine T_pick (by decide) (by decide) fun d hd => ?_
    simp only [List.mem_cons, List.not_mem_nil, or_false] at hd
    rcases hd with rfl | rfl | rfl | rfl
    · rw [tq_lit1]; exact h _ (un_fin (by decide) (by decide) (by decide) (by decide) (by decide) (by decide) (by decide))
    · rw [tq_lit1]; exact h _ (un_fin (by decide) (by decide) (by decide) (by decide) (by decide) (by decide) (by decide))
    · rw [tq_lit1]; exact h _ (un_fin (by decide) (by decide) (by decide) (by decide) (by decide) (by decide) (by decide))
    · rw [tq_lit1]; exact h _ (un_fin (by decide) (by decide) (by decide) (by decide) (by decide) (by decide) (by decide))
  · refine T_draw (by decide) (by decide) fun a a1 a2 => ?_
    walk_at "xp"
    refine T_draw (by decide) (by decide) fun b b1 b2 => ?_
    walk_at "xp"
    generalize hm : 1 + a = m
    generalize hn : b - 4 = n
    have q1 : Bd 4 m := bd4 (by omega) (by omega)
    have q2 : Bd 4 n := bd4 (by omega) (by omega)
    have q3 : Bd 2 2 := by unfold Bd; decide
    have s1 : m * m ≤ 16 := by have := sq_bd (a := m) (d := 5) (by omega) (by omega); omega
    have s2 : n * n ≤ 16 := by have := sq_bd (a := n) (d := 5) (by omega) (by omega); omega
    have s3 : 1 ≤ m * m := by
      have := Int.mul_le_mul (show (1 : Int) ≤ m by omega) (show (1 : Int) ≤ m by omega) (by decide) (by omega)
      omega
    have s4 : 0 ≤ n * n := isq_nonneg n
    have s5 : -33 < 2 * m * n ∧ 2 * m * n < 33 := by
      have h1 : 0 ≤ (m - n) * (m - n) := isq_nonneg _
      have h2 : 0 ≤ (m + n) * (m + n) := isq_nonneg _
      have h3 : (m - n) * (m - n) = m * m + n * n - 2 * m * n := by grind
      have h4 : (m + n) * (m + n) = m * m + n * n + 2 * m * n := by grind
      omega
    refine ⟨mul9 q1 q1 (by decide), mul9 q2 q2 (by decide), mul9 q3 q1 (by decide), mul9 (q3.mul q1) q2 (by decide), mul9 q1 q1 (by decide), mul9 q2 q2 (by decide), ?_⟩
    refine T_cut (n := 6) (by omega) (by unfold Bd; omega) (by decide) (h _ (un_fin (by omega) (by omega) (by omega) (by omega) (by omega) (by omega) ?_))
    grind
theorem T_drawn (hg : Bo g) (h : ∀ u c, Un u → Dz g c → Φ (.tuple [tq u, tq c])) : F__law_drawn_turn A [fr g] Φ := by
  unfold F__law_drawn_turn mkQ b__law_drawn_turn
  refine ⟨rfl, ?_⟩
  walk_at "ys"
  refine T_unit fun u hu => ?_
  refine T_draw (by decide) (by decide) fun r _ _ => ?_
  refine ifB_in (fun _ => ?_) fun _ => ?_
  · have e : PyData.tuple [.int 0, .int 0, .int 1] = tq 0 := by
      rw [tq_lit1]
      congr 1
    rw [e]
    exact h u 0 hu (dz_zero hg)
  · exact T_within hg fun c hc => h u c hu hc
end


/-! QJ: the laws' checks of a turn. -/
section
variable {Φ : PyData → Prop} {n m k l : Nat} {x y z w u c : Cn} {p q g : Rat} {A : Addr}
theorem T_lturn (hu : Ts n u) (hc : Ts m c) (s1 : n ≤ 9000) (s2 : m ≤ 9000) (h : Φ (.tuple [nm u, nm c])) : F__law_turn [tq u, tq c] Φ := by
  unfold F__law_turn mkF b__law_turn
  refine ⟨rfl, ?_⟩
  walk_at "ys"
  refine T_lnumber hu s1 ?_
  exact T_lnumber hc s2 h
theorem qd_neg {a c : Int} (hc : 0 < c) : qd a c < 0 ↔ a < 0 := by
  have h1 : (0 : Rat) < (c : Rat) := Rat.intCast_lt_intCast.mpr hc
  rw [qd_div, Rat.div_lt_iff h1, Rat.zero_mul]
  exact Rat.intCast_lt_intCast (a := a) (b := 0)
theorem T_below (hx : Ts n x) (hg : Rs 7 g) (hl : x.nsq < g) (s1 : n + n + 1 + 7 ≤ 9000) (h : Φ (.bool true)) : F__law_below_2 [tq x, fr g] Φ := by
  unfold F__law_below_2 mkF b__law_below_2
  refine ⟨rfl, ?_⟩
  walk_at "ys"
  refine T_lsize hx (by omega) ?_
  refine T_real ?_
  refine T_lless hx.nsq.tsR hg.tsR (by omega) ?_
  rw [ofR_sub]
  show Φ (.bool (decide (ta (Cn.ofR (x.nsq - g)) < 0)))
  have e : ta (Cn.ofR (x.nsq - g)) < 0 := by
    rw [← qd_neg (tc_pos (Cn.ofR (x.nsq - g)))]
    have e1 := congrArg Cn.re (tq_val (Cn.ofR (x.nsq - g)))
    have e2 : (Cn.ofR (x.nsq - g)).re = x.nsq - g := rfl
    rw [e2] at e1
    dsimp only at e1
    rw [← e1]
    grind
  rw [decide_eq_true e]
  exact h
theorem T_lis_fraction (h : Φ (.bool true)) : F__law_is_fraction_2 [fr q] Φ := by
  unfold F__law_is_fraction_2 mkF b__law_is_fraction_2
  refine ⟨rfl, ?_⟩
  show _ ∧ _
  refine ⟨(show 2 ≤ sizeLine by rw [sizeLine_eq]; decide), ?_⟩
  show _ ∧ _ ∧ _
  refine ⟨rfl, rfl, ?_⟩
  show ifB (decide ((0 : Int) < q.den)) _ _
  rw [decide_eq_true (den_pos q)]
  show F__law_common [.int q.num, .int q.den] _
  refine T_common ?_
  show Φ (.bool (decide (((Nat.gcd q.num.natAbs ((q.den : Int)).natAbs : Nat) : Int) = 1)))
  have e : Nat.gcd q.num.natAbs ((q.den : Int)).natAbs = 1 := q.reduced
  rw [e]
  exact h
theorem T_lis_number (h : Φ (.bool true)) : F__law_is_number_2 [nm x] Φ := by
  unfold F__law_is_number_2 mkF b__law_is_number_2
  refine ⟨rfl, ?_⟩
  show F__law_is_fraction_2 [fr x.re] _
  refine T_lis_fraction ?_
  show F__law_is_fraction_2 [fr x.im] _
  exact T_lis_fraction h
theorem T_is_line2 (h : Φ (.bool true)) : F__law_is_line [.tuple [nm x, nm y], .int 2] Φ := by
  unfold F__law_is_line mkF b__law_is_line
  refine ⟨rfl, ?_⟩
  show _ ∧ _
  refine ⟨(show 2 ≤ sizeLine by rw [sizeLine_eq]; decide), ?_⟩
  show F__law_is_number_2 [nm x] _
  refine T_lis_number ?_
  show F__law_is_number_2 [nm y] _
  refine T_lis_number ?_
  exact ⟨rfl, rfl, h⟩
theorem eqv_tq {x y : Cn} : PyData.eqv (tq x) (tq y) = decide (x = y) := by
  have h : PyData.eqv (tq x) (tq y) = (ta x == ta y && (tb x == tb y && (tc x == tc y && true))) := rfl
  rw [h]
  by_cases e : x = y
  · subst e
    simp
  · rw [decide_eq_false e]
    rcases Bool.eq_false_or_eq_true (ta x == ta y && (tb x == tb y && (tc x == tc y && true))) with q | q
    · simp only [Bool.and_eq_true, beq_iff_eq] at q
      refine absurd (tq_inj ?_) e
      unfold tq
      rw [q.1, q.2.1, q.2.2.1]
    · exact q
theorem T_lis_turn (hu : Ts n u) (h1 : u.nsq = 1) (hc : Ts m c) (hg : Rs 7 g) (hl : c.nsq < g) (s1 : n + n ≤ 9000) (s2 : m + m + 8 ≤ 9000) (h : Φ (.bool true)) : F__law_is_turn [.tuple [nm u, nm c], fr g] Φ := by
  unfold F__law_is_turn mkF b__law_is_turn
  refine ⟨rfl, ?_⟩
  walk_at "ys"
  refine T_is_line2 ?_
  show F__law_read_2 [nm u] _
  refine T_lread hu s1 ?_
  refine T_lsize hu s1 ?_
  rw [h1]
  have e : PyData.tuple [.int 1, .int 0, .int 1] = tq (Cn.ofR 1) := by
    rw [tq_lit1]
    congr 1
  rw [e]
  show _ ∧ _ ∧ _
  refine ⟨rfl, rfl, ?_⟩
  rw [eqv_tq, decide_eq_true rfl]
  show F__law_read_2 [nm c] _
  refine T_lread hc (by omega) ?_
  exact T_below hc hg hl (by omega) h
end


/-! QS: what is shown; the pot. -/
theorem x_neN (d : PyData) (Φ : PyData → Prop) : oNotN d .none Φ = Φ (.bool (!isNone d)) := rfl
theorem isNone_none : isNone .none = true := rfl
local macro_rules | `(tactic| walk_at "zs") => `(tactic| (try dsimp only [vLc, lcW, vTurn, cleE, clE, vYes, Option.toList, List.append, List.nil_append, vSl, slD2, vPart, vSeqS, vRet, vRetN, vTup, vCons, vNil, vCall, vCallD, vCallK, vCallQ, vOp, vVar, vC, vOf, vB, vIf, vIfS, vTest, vTru, vNot, vOr, vAnd, vAndV, vOrV, vNotV, vNeg, vAsg, vAsgM, vAsgG, vPar, vPar3, vgT, vgCons, vgN, vgNil, vDrop, vNext, vNever, vFor, forW, vSeq, seD,
  two, three, truD, booD, ends, List.map, List.replicate, List.cons_append, List.nil_append, List.length_cons, List.length_nil, geE, puE, ix10, ix20, ix21, ix30, ix31, ix32, ix40, ix41, ix42, ix43, lx, x_add, x_sub, x_mul, x_div, x_mod, x_lt, x_le, x_gt, x_ge, x_eq, x_ne, Nat.reduceAdd, ifB_t, ifB_f, decide_true, decide_false, Bool.not_true, Bool.not_false, kp_3_210, kp_2_10, kp_1_0, intD, vRep, isNone_none, x_neN]; try simp only [eq_self, true_and]))
section
variable {Φ : PyData → Prop} {n m k l : Nat} {x y z w u c : Cn} {p q g : Rat} {A : Addr} {P : Post}
theorem T_repr {d : PyData} (h1 : Shw d) (h2 : cnt d ≤ 8000) (h3 : PyData.depth d ≤ 60) (h : Φ (.str (PyData.shown d))) : oRepr [d] Φ := by
  obtain ⟨a1, a2, a3⟩ := shw_ok d h1
  refine ⟨a1, a2, h3, ?_, h⟩
  rw [sizeLine_eq]
  omega
end
theorem cut_int (ns : List Int) : ∃ ms : List Int, ms.length ≤ 63 ∧ cutD (ns.map PyData.int) none (some 63) = ms.map PyData.int := by
  refine ⟨(ns.drop (HT.sIx (ns.map PyData.int).length 0 none)).take (HT.sIx (ns.map PyData.int).length (ns.map PyData.int).length (some 63) - HT.sIx (ns.map PyData.int).length 0 none), ?_, ?_⟩
  · refine Nat.le_trans (List.length_take_le _ _) ?_
    have e := HT.sIx_nat (ns.map PyData.int).length (ns.map PyData.int).length 63
    have e2 : HT.sIx (ns.map PyData.int).length (ns.map PyData.int).length (some 63) = min 63 (ns.map PyData.int).length := e
    rw [e2]
    omega
  · unfold cutD
    rw [List.map_take, List.map_drop]
theorem enum_int (ms : List Int) (h : ms.length ≤ 63) : ∀ d ∈ enD (ms.map PyData.int), ∃ (k : Nat) (v : Int), d = .tuple [.int (k : Int), .int v] ∧ k < 64 := by
  intro d hd
  unfold enD at hd
  obtain ⟨q, hq, rfl⟩ := List.mem_map.mp hd
  obtain ⟨x, i⟩ := q
  have h1 := List.mem_zipIdx' hq
  obtain ⟨v, _, hv⟩ := List.mem_map.mp (List.mem_of_getElem? (List.getElem?_eq_some_iff.mpr ⟨h1.1, h1.2.symm⟩))
  refine ⟨i, v, by rw [← hv], ?_⟩
  have := h1.1
  rw [List.length_map] at this
  omega
theorem pot_loop {P : Post} {L T o : Sl} (hP : ∀ (m : Int) (a b : Sl), P.N [L, T, .d (.int m), a, b, o]) : ∀ (xs : List PyData), (∀ d ∈ xs, ∃ (k : Nat) (v : Int), d = .tuple [.int (k : Int), .int v] ∧ k < 64) → ∀ (m : Int) (a b : Sl),
    forW (vgT 2 (vgCons (vgN 3) (vgCons (vgN 4) vgNil))) (vAsg 2 (vOp oMod (vB oInt (vCons (vOp oAdd (vOp oAdd (vOp oMul (vVar 2) (vC (.int 69621))) (vOp oMul (vB oInt (vCons (vVar 4) vNil)) (vOp oAdd (vOp oMul (vC (.int 2)) (vVar 3)) (vC (.int 5))))) (vC (.int 40487))) vNil)) (vC (.int 2147483629)))) xs [L, T, .d (.int m), a, b, o] P
  | [], _, m, a, b => hP m a b
  | x :: xs, h, m, a, b => by
    obtain ⟨k, v, rfl, hk⟩ := h x (List.mem_cons_self ..)
    unfold forW
    show _ ∧ _
    refine ⟨rfl, ?_⟩
    show (_ ∨ _) ∧ (_ ∨ _) ∧ (_ ∨ _) ∧ _ ∧ _
    refine ⟨Or.inr (Or.inr ⟨by decide, by decide⟩), Or.inr (Or.inl ⟨by decide, by decide⟩), Or.inr (Or.inr ⟨by omega, by omega⟩), by decide, ?_⟩
    exact pot_loop hP xs (fun d hd => h d (List.mem_cons_of_mem _ hd)) _ _ _
theorem F__law_pot_ok (ns : List Int) (t : Int) (h : 0 ≤ t) : b__law_pot (ends [.list (ns.map .int), .int t] 4) threeP := by
  unfold b__law_pot vSeqM
  show (_ ∨ _) ∧ _
  refine ⟨Or.inr (Or.inl ⟨by decide, by decide⟩), ?_⟩
  obtain ⟨ms, hm, e⟩ := cut_int ns
  show forW _ _ (enD (cutD (ns.map PyData.int) none (some 63))) _ _
  rw [e]
  refine pot_loop (L := .d (.list (ns.map .int))) (T := .d (.int t)) (o := .un) ?_ _ (enum_int ms hm) _ _ _
  intro m a b
  have fin : ∀ own : Int, (vCons (vIf (vTest (vOp oGe (vVar 5) (vOp oPow (vC (.int 10)) (vC (.int 18))))) (vVar 5) (vC (.int 0))) (vCons (vOp oMod (vB oInt (vCons (vOp oAdd (vOp oAdd (vOp oMul (vVar 2) (vC (.int 16807))) (vVar 5)) (vOp oMul (vC (.int 91)) (vVar 1))) vNil)) (vC (.int 2147483629))) (vCons (vC (.int 0)) vNil))) [.d (.list (ns.map .int)), .d (.int t), .d (.int m), a, b, .d (.int own)] threeP := by
    intro own
    show _ ∧ _
    refine ⟨⟨by decide, by decide, by decide⟩, ?_⟩
    refine ifB_in (fun _ => ?_) fun _ => ?_
    · show (_ ∨ _) ∧ (_ ∨ _) ∧ _ ∧ _
      exact ⟨Or.inr (Or.inr ⟨by decide, by decide⟩), Or.inr (Or.inl ⟨by decide, by decide⟩), by decide, _, _, _, rfl, Int.emod_nonneg _ (by decide), Int.lt_trans (Int.emod_lt_of_pos _ (by decide)) (by decide)⟩
    · show (_ ∨ _) ∧ (_ ∨ _) ∧ _ ∧ _
      exact ⟨Or.inr (Or.inr ⟨by decide, by decide⟩), Or.inr (Or.inl ⟨by decide, by decide⟩), by decide, _, _, _, rfl, Int.emod_nonneg _ (by decide), Int.lt_trans (Int.emod_lt_of_pos _ (by decide)) (by decide)⟩
  show ifB (decide (t < ((ns.map PyData.int).length : Int))) _ _
  refine ifB_in (fun z => ?_) fun _ => fin 0
  show oIx (.tuple (ns.map PyData.int)) (.int t) _
  refine at_in h (of_decide_eq_true z) fun d hd => ?_
  obtain ⟨v, _, rfl⟩ := List.mem_map.mp hd
  exact fin _


/-! QN: turns led back and behind each other (begun, for k46). -/
section
variable {Φ : PyData → Prop} {n m k l : Nat} {x y z w u v a b c : Cn} {p q g : Rat} {A : Addr}
theorem T_is_turn (hu : Ts n u) (h1 : u.nsq = 1) (hc : Ts k c) (hg : Rs m g) (h0 : 0 < g) (s1 : 4 * n ≤ 9000) (s2 : 4 * k ≤ 9000) (s3 : k + k + 1 + m ≤ 9000) (h : Φ (.bool (decide (c.nsq < g)))) : F_is_turn [.tuple [nm u, nm c], fr g] Φ := by
  unfold F_is_turn mkF b_is_turn
  refine ⟨rfl, ?_⟩
  walk_at "ys"
  refine T_need_bound h0 ?_
  unfold F_is_turn_for mkF b_is_turn_for
  refine ⟨rfl, ?_⟩
  walk_at "ys"
  refine T_is_any_turn hu h1 s1 ?_
  refine T_size_of hc.cs (by omega) ?_
  refine T_order hc.nsq hg (by omega) ?_
  show Φ (.bool (decide (ordI c.nsq g < 0)))
  have e : decide (ordI c.nsq g < 0) = decide (c.nsq < g) := by
    unfold ordI
    by_cases e1 : c.nsq = g
    · rw [if_pos e1, decide_eq_false (by omega), decide_eq_false (by grind)]
    · by_cases e2 : c.nsq < g
      · rw [if_neg e1, if_pos e2, decide_eq_true (by omega), decide_eq_true e2]
      · rw [if_neg e1, if_neg e2, decide_eq_false (by omega), decide_eq_false e2]
  rw [e]
  exact h
theorem T_back (hu : Ts n u) (hn : u.nsq = 1) (hc : Ts m c) (s1 : 4 * n ≤ 9000) (h1 : n + n + (m + m) ≤ 9000) (h : Φ (.tuple [nm u.conj, nm (0 - u * c)])) : F_back [.tuple [nm u, nm c]] Φ := by
  unfold F_back mkF b_back
  refine ⟨rfl, ?_⟩
  walk_at "ys"
  refine T_is_any_turn hu hn s1 ?_
  exact T_back_of hu hc h1 h
theorem T_maybe (hx : Ts n x) (hz : n ≤ 9000) (h : Φ (nm x)) : F__law_maybe [tq x] Φ := by
  unfold F__law_maybe mkF b__law_maybe
  refine ⟨rfl, ?_⟩
  walk_at "ys"
  exact T_lnumber hx hz h
theorem T_maybe0 (h : Φ .none) : F__law_maybe [.none] Φ := by
  unfold F__law_maybe mkF b__law_maybe
  exact ⟨rfl, h⟩
/-- of drawn turns -/
theorem T_one (hu : Ts 6 u) (ha : Ts 8 a) (hv : Ts 6 v) (hb : Ts 8 b) (hg : Rs 7 g) (h0 : 0 < g) (hc : u + b * a.conj / Cn.ofR g ≠ 0)
    (h : Φ (.tuple [nm (v * u.conj * (u + b * a.conj / Cn.ofR g) / (u + b * a.conj / Cn.ofR g).conj), nm ((u * a + b) / (u + b * a.conj / Cn.ofR g))])) :
    F_one_turn [.tuple [nm u, nm a], .tuple [nm v, nm b], fr g] Φ := by
  have t1 : Ts 17 (b * a.conj) := hb.mul ha.conj
  have t2 : Ts 24 (b * a.conj / Cn.ofR g) := div_ts t1 hg h0
  have t3 : Ts 31 (u + b * a.conj / Cn.ofR g) := hu.add t2
  have t4 : Ts 13 (v * u.conj) := hv.mul hu.conj
  have t5 : Ts 45 (v * u.conj * (u + b * a.conj / Cn.ofR g)) := t4.mul t3
  have t6 : Ts 15 (u * a) := hu.mul ha
  have t7 : Ts 24 (u * a + b) := t6.add hb
  unfold F_one_turn mkF b_one_turn
  refine ⟨rfl, ?_⟩
  walk_at "ys"
  refine T_mirror ?_
  refine T_times hb.cs ha.conj.cs (by decide) ?_
  refine T_part_of t1.cs hg h0 (by decide) ?_
  refine T_plus hu.cs t2.cs (by decide) ?_
  refine T_mirror ?_
  refine T_times hv.cs hu.conj.cs (by decide) ?_
  refine T_times t4.cs t3.cs (by decide) ?_
  refine T_mirror ?_
  refine T_over t5 t3.conj (conj_ne hc) (by decide) (by decide) (by decide) ?_
  refine T_times hu.cs ha.cs (by decide) ?_
  refine T_plus t6.cs hb.cs (by decide) ?_
  exact T_over t7 t3 hc (by decide) (by decide) (by decide) h
theorem T_behind (hu : Un u) (ha : Dz g a) (hv : Un v) (hb : Dz g b) (hg : Bo g) (hc : u + b * a.conj / Cn.ofR g ≠ 0)
    (h : Φ (.tuple [nm (v * u.conj * (u + b * a.conj / Cn.ofR g) / (u + b * a.conj / Cn.ofR g).conj), nm ((u * a + b) / (u + b * a.conj / Cn.ofR g))])) :
    F_behind [.tuple [nm u, nm a], .tuple [nm v, nm b], fr g] Φ := by
  unfold F_behind mkF b_behind
  refine ⟨rfl, ?_⟩
  walk_at "ys"
  refine T_need_bound hg.pos ?_
  refine T_need_turn hu.ts hu.un ha.ts hg.rs ha.lt (by decide) (by decide) (by decide) ?_
  refine T_need_turn hv.ts hv.un hb.ts hg.rs hb.lt (by decide) (by decide) (by decide) ?_
  exact T_one hu.ts ha.ts hv.ts hb.ts hg.rs hg.pos hc h
end


/-! QO: one turn behind another, at any number where both may be said. -/
theorem comp_core {G u ub v a ab b bb t s sb η : Cn} (hG : G ≠ 0) (uu : u * ub = 1) (hs : s = G * u + b * ab) (hsb : sb = G * ub + bb * a) (s0 : s ≠ 0) (sb0 : sb ≠ 0) (hD : G - ab * t ≠ 0)
    (hη : η * (G - ab * t) = G * (u * (t - a))) (hE : G - bb * η ≠ 0) :
    (v * ub * s / sb * (t - (u * a + b) * G / s)) / (1 - (ub * ab + bb) * G / sb * t / G) = v * (η - b) / (1 - bb * η / G) := by
  have k1 : (G - bb * η) * (G - ab * t) = G * (u * (sb - (ub * ab + bb) * t)) := by
    have e1 : (G - bb * η) * (G - ab * t) = G * (G - ab * t) - bb * (η * (G - ab * t)) := by grind
    rw [e1, hη, hsb]
    clear hη hE e1 s0 sb0
    grind
  have hW : sb - (ub * ab + bb) * t ≠ 0 := by
    intro k
    rw [k] at k1
    refine mul_ne' hE hD ?_
    rw [k1]
    grind
  have eL : (v * ub * s / sb * (t - (u * a + b) * G / s)) / (1 - (ub * ab + bb) * G / sb * t / G) = v * ub * (t * s - (u * a + b) * G) / (sb - (ub * ab + bb) * t) := by
    have d1 : 1 - (ub * ab + bb) * G / sb * t / G = (sb - (ub * ab + bb) * t) / sb := by
      generalize ub * ab + bb = r at *
      clear hs hsb k1 hη hE hD uu s0
      grind
    have d2 : v * ub * s / sb * (t - (u * a + b) * G / s) = v * ub * (t * s - (u * a + b) * G) / sb := by
      generalize u * a + b = r at *
      generalize v * ub = q at *
      clear hs hsb k1 hη hE hD uu d1 hW
      grind
    rw [d1, d2]
    generalize v * ub * (t * s - (u * a + b) * G) = n at *
    generalize sb - (ub * ab + bb) * t = w at *
    clear hs hsb k1 hη hE hD uu d1 d2
    grind
  have eR : v * (η - b) / (1 - bb * η / G) = G * (v * (η - b)) / (G - bb * η) := by
    have d1 : 1 - bb * η / G = (G - bb * η) / G := by
      generalize bb * η = r at *
      clear hs hsb k1 hη hE hD uu eL hW
      grind
    rw [d1]
    generalize G - bb * η = r at *
    generalize v * (η - b) = q at *
    clear hs hsb k1 hη hD uu eL hW d1
    grind
  rw [eL, eR]
  refine div_of hW ?_
  have e3 : G * (v * (η - b)) * (sb - (ub * ab + bb) * t) = v * ub * (t * s - (u * a + b) * G) * (G - bb * η) := by
    refine cancel' hD ?_
    have f1 : G * (v * (η - b)) * (sb - (ub * ab + bb) * t) * (G - ab * t) = G * v * (η * (G - ab * t) - b * (G - ab * t)) * (sb - (ub * ab + bb) * t) := by
      generalize sb - (ub * ab + bb) * t = w at *
      clear hs hsb k1 hη hE hD uu eL eR
      grind
    have f2 : v * ub * (t * s - (u * a + b) * G) * (G - bb * η) * (G - ab * t) = v * ub * (t * s - (u * a + b) * G) * ((G - bb * η) * (G - ab * t)) := by grind
    rw [f1, f2, k1, hη]
    have f3 : G * (u * (t - a)) - b * (G - ab * t) = t * s - (u * a + b) * G := by
      rw [hs]
      grind
    rw [f3]
    generalize t * s - (u * a + b) * G = n at *
    generalize sb - (ub * ab + bb) * t = w at *
    clear hs hsb k1 hη hE hD eL eR f1 f2 f3
    grind
  have e4 : G * (v * (η - b)) / (G - bb * η) * (sb - (ub * ab + bb) * t) = G * (v * (η - b)) * (sb - (ub * ab + bb) * t) / (G - bb * η) := by
    generalize sb - (ub * ab + bb) * t = w at *
    generalize G * (v * (η - b)) = q at *
    generalize G - bb * η = r at *
    clear hs hsb k1 hη hD uu eL eR e3
    grind
  rw [e4, e3]
  generalize v * ub * (t * s - (u * a + b) * G) = n at *
  generalize G - bb * η = r at *
  clear hs hsb k1 hη hD uu eL eR e3 e4
  grind
section
variable {g : Rat} {u v a b t : Cn}
theorem ofR_subs (p q : Rat) : Cn.ofR p - Cn.ofR q = Cn.ofR (p - q) := Cn.ext' rfl (show (0 : Rat) - 0 = 0 by grind)
theorem un_conj (hu : u.nsq = 1) : u * u.conj = 1 := by rw [mul_conj, hu]; rfl
/-- (v, b) behind (u, a) -/
structure Beh (g : Rat) (u a v b : Cn) : Prop where
  ne : u + b * a.conj / Cn.ofR g ≠ 0
  un : (v * u.conj * (u + b * a.conj / Cn.ofR g) / (u + b * a.conj / Cn.ofR g).conj).nsq = 1
  ce : ((u * a + b) / (u + b * a.conj / Cn.ofR g)).nsq < g
  at_ : ∀ t : Cn, Cn.ofR g - a.conj * t ≠ 0 → Cn.ofR g - b.conj * leadC u a g t ≠ 0 →
    leadC (v * u.conj * (u + b * a.conj / Cn.ofR g) / (u + b * a.conj / Cn.ofR g).conj) ((u * a + b) / (u + b * a.conj / Cn.ofR g)) g t = leadC v b g (leadC u a g t)
theorem behind_ok (hg : 0 < g) (ha : a.nsq < g) (hb : b.nsq < g) (hu : u.nsq = 1) (hv : v.nsq = 1) : Beh g u a v b := by
  have uu := un_conj hu
  have hG := gR_ne hg
  have gc : (Cn.ofR g).conj = Cn.ofR g := conj_ofR g
  have hζ : (0 - u.conj * b).nsq < g := by rw [nsq_neg]; rw [show u.conj * b - 0 = u.conj * b by grind, nsq_mul', nsq_conj, hu]; grind
  obtain ⟨kp1, kp2⟩ := key_pos hg ha hζ
  have hs0 := far_ne hg ha hζ
  have hu0 : u ≠ 0 := (nsq_ne u).mp (by rw [hu]; decide)
  have es : Cn.ofR g * u + b * a.conj = u * (Cn.ofR g - a.conj * (0 - u.conj * b)) := by
    generalize u.conj = ub at *
    generalize a.conj = ab at *
    generalize Cn.ofR g = G at *
    clear hs0 kp1 kp2
    grind
  have s0 : Cn.ofR g * u + b * a.conj ≠ 0 := by rw [es]; exact mul_ne' hu0 hs0
  have esb : (Cn.ofR g * u + b * a.conj).conj = Cn.ofR g * u.conj + b.conj * a := by
    rw [conj_add, conj_mul, conj_mul, conj_conj, gc]
  have sb0 : Cn.ofR g * u.conj + b.conj * a ≠ 0 := by rw [← esb]; exact conj_ne s0
  have ec : u + b * a.conj / Cn.ofR g = (Cn.ofR g * u + b * a.conj) / Cn.ofR g := by
    generalize b * a.conj = r at *
    generalize Cn.ofR g = G at *
    clear es s0 esb sb0 hs0 kp1 kp2
    grind
  have hc : u + b * a.conj / Cn.ofR g ≠ 0 := by
    rw [ec]
    intro k
    generalize Cn.ofR g * u + b * a.conj = r at *
    clear es esb sb0 hs0 kp1 kp2 ec
    grind
  have ecb : (u + b * a.conj / Cn.ofR g).conj = (Cn.ofR g * u.conj + b.conj * a) / Cn.ofR g := by
    rw [ec, conj_div _ _ hG, esb, gc]
  have eU : v * u.conj * (u + b * a.conj / Cn.ofR g) / (u + b * a.conj / Cn.ofR g).conj = v * u.conj * (Cn.ofR g * u + b * a.conj) / (Cn.ofR g * u.conj + b.conj * a) := by
    rw [ecb, ec]
    generalize Cn.ofR g * u + b * a.conj = s at *
    generalize Cn.ofR g * u.conj + b.conj * a = sb at *
    generalize v * u.conj = r at *
    clear es esb hs0 kp1 kp2 ec ecb hc
    grind
  have eC : (u * a + b) / (u + b * a.conj / Cn.ofR g) = (u * a + b) * Cn.ofR g / (Cn.ofR g * u + b * a.conj) := by
    rw [ec]
    generalize Cn.ofR g * u + b * a.conj = s at *
    generalize u * a + b = r at *
    clear es esb hs0 kp1 kp2 ec ecb hc eU
    grind
  refine ⟨hc, ?_, ?_, ?_⟩
  · rw [nsq_div' _ _ (conj_ne hc), nsq_mul', nsq_mul', nsq_conj, nsq_conj, hu, hv]
    have := (nsq_ne _).mpr hc
    generalize (u + b * a.conj / Cn.ofR g).nsq = r at *
    grind
  · rw [eC, es, nsq_div' _ _ (mul_ne' hu0 hs0), nsq_mul', nsq_mul', nsq_ofR, hu]
    have e1 : (u * a + b).nsq = (0 - u.conj * b - a).nsq := by
      have : u * a + b = u * (a - (0 - u.conj * b)) := by grind
      rw [this, nsq_mul', hu, nsq_neg]
      grind
    rw [e1]
    have := frac_lt hg kp2 kp1
    generalize (0 - u.conj * b - a).nsq = r at *
    generalize (Cn.ofR g - a.conj * (0 - u.conj * b)).nsq = w at *
    have e2 : r * (g * g) / (1 * w) = g * (g * r) / w := by grind
    rw [e2]
    exact this
  · intro t h1 h2
    have eCb : ((u * a + b) * Cn.ofR g / (Cn.ofR g * u + b * a.conj)).conj = (u.conj * a.conj + b.conj) * Cn.ofR g / (Cn.ofR g * u.conj + b.conj * a) := by
      rw [conj_div _ _ s0, conj_mul, conj_add, conj_mul, gc, esb]
    rw [eU, eC]
    have key := comp_core (v := v) (b := b) (bb := b.conj) (ub := u.conj) (ab := a.conj) (η := leadC u a g t) hG uu rfl rfl s0 sb0 h1 (by
      unfold leadC
      have d1 := den_eq (c := a) (z := t) hg
      rw [d1]
      generalize Cn.ofR g - a.conj * t = D at *
      generalize u * (t - a) = q at *
      clear es esb hs0 kp1 kp2 ec ecb hc eU eC eCb d1 s0 sb0 h2
      grind) h2
    have l1 : ∀ U C : Cn, leadC U C g t = U * (t - C) / (1 - C.conj * t / Cn.ofR g) := fun _ _ => rfl
    rw [l1, eCb, key]
    rfl
theorem back_core {G u ub c cb t : Cn} (hG : G ≠ 0) (uu : u * ub = 1) (hD : G - cb * t ≠ 0) (hN : G - c * cb ≠ 0) :
    ub * (G * (u * (t - c)) / (G - cb * t) - (0 - u * c)) / (1 - (0 - ub * cb) * (G * (u * (t - c)) / (G - cb * t)) / G) = t := by
  have e1 : ub * (G * (u * (t - c)) / (G - cb * t) - (0 - u * c)) = t * (G - c * cb) / (G - cb * t) := by
    have f : t * (G - c * cb) = ub * (G * (u * (t - c)) + u * c * (G - cb * t)) := by
      clear hD hN
      grind
    rw [f]
    generalize G * (u * (t - c)) = q at *
    generalize G - cb * t = D at *
    clear f hN uu
    grind
  have e2 : 1 - (0 - ub * cb) * (G * (u * (t - c)) / (G - cb * t)) / G = (G - c * cb) / (G - cb * t) := by
    have f : G - c * cb = (G - cb * t) + u * ub * (cb * (t - c)) := by
      rw [uu]
      clear hD hN
      grind
    rw [f]
    have f2 : (0 - ub * cb) * (G * (u * (t - c)) / (G - cb * t)) / G = 0 - u * ub * (cb * (t - c)) / (G - cb * t) := by
      generalize G - cb * t = D at *
      clear f hN uu e1
      grind
    rw [f2]
    generalize u * ub * (cb * (t - c)) = q at *
    generalize G - cb * t = D at *
    clear f f2 hN uu e1
    grind
  rw [e1, e2]
  generalize G - c * cb = n at *
  generalize G - cb * t = D at *
  clear e1 e2 uu
  grind
/-- led, and back -/
theorem lead_back {c : Cn} (hg : 0 < g) (hc : c.nsq < g) (hu : u.nsq = 1) (h1 : Cn.ofR g - c.conj * t ≠ 0) : leadC u.conj (0 - u * c) g (leadC u c g t) = t := by
  have hG := gR_ne hg
  have e : leadC u c g t = Cn.ofR g * (u * (t - c)) / (Cn.ofR g - c.conj * t) := by
    unfold leadC
    rw [den_eq hg]
    generalize u * (t - c) = q at *
    generalize Cn.ofR g - c.conj * t = D at *
    grind
  have hN : Cn.ofR g - c * c.conj ≠ 0 := by
    rw [mul_conj, ofR_subs]
    exact ofR_ne (by grind)
  have l1 : ∀ U C s : Cn, leadC U C g s = U * (s - C) / (1 - C.conj * s / Cn.ofR g) := fun _ _ _ => rfl
  rw [l1, e]
  have ec : (0 - u * c).conj = 0 - u.conj * c.conj := by rw [conj_sub, conj_mul, conj_zero]
  rw [ec]
  exact back_core hG (un_conj hu) h1 hN
end


/-! QP: led at any number, poles among them. -/
section
variable {Φ : PyData → Prop} {n m k l : Nat} {x y z w u v a b c : Cn} {p q g : Rat} {A : Addr}
theorem T_led1_pole (hz : Ts n z) (hu : Ts m u) (hc : Ts k c) (hg : Rs l g) (h0 : 0 < g) (hd : 1 - c.conj * z / Cn.ofR g = 0) (s1 : m + m + (n + k + 1 + (n + k + 1)) ≤ 9000) (s2 : (k + l + 2) + (k + l + 2) + (n + n) ≤ 9000)
    (s3 : (m + n + k + 2) + (m + n + k + 2) + ((n + k + l + 5) + (n + k + l + 5)) ≤ 9000) (s4 : 4 * (n + k + l + 5) ≤ 9000) (s5 : (m + n + k + 2) + 3 * (n + k + l + 5) + 2 ≤ 9000)
    (h : Φ .none) : F_series_led [.tuple [nm z], .tuple [nm u, nm c], fr g] Φ := by
  unfold F_series_led mkF b_series_led
  refine ⟨rfl, ?_⟩
  show _ ∧ _
  refine ⟨rfl, ?_⟩
  refine T_mirror ?_
  refine T_part_of hc.conj.cs hg h0 (by omega) ?_
  show F_less [nm z, nm c] _
  refine T_less hz.cs hc.cs (by omega) ?_
  show _ ∧ _
  refine ⟨(show 1 ≤ sizeLine by rw [sizeLine_eq]; decide), ?_⟩
  show _ ∧ _
  refine ⟨(show 1 ≤ sizeLine by rw [sizeLine_eq]; decide), ?_⟩
  show F_times [nm u, nm (z - c)] _
  refine T_times hu.cs (hz.sub hc).cs (by omega) ?_
  show _ ∧ _
  refine ⟨(show 1 ≤ sizeLine by rw [sizeLine_eq]; decide), ?_⟩
  have td : Ts (k + l) (c.conj / Cn.ofR g) := by
    have e : c.conj / Cn.ofR g = c.conj.scale g⁻¹ := by rw [scale_ofR, div_ofR]
    rw [e]
    exact hc.conj.scale (hg.inv h0)
  show F_less [nm 0, nm (c.conj / Cn.ofR g)] _
  refine T_less ts_zero.cs td.cs (by omega) ?_
  have t2 := ts_zero.sub td
  show F_times [nm (0 - c.conj / Cn.ofR g), nm z] _
  refine T_times t2.cs hz.cs (by omega) ?_
  show F_plus [nm 1, nm ((0 - c.conj / Cn.ofR g) * z)] _
  have t3 := t2.mul hz
  refine T_plus ts_one.cs t3.cs (by omega) ?_
  have e : 1 + (0 - c.conj / Cn.ofR g) * z = 1 - c.conj * z / Cn.ofR g := by
    have := gR_ne h0
    generalize Cn.ofR g = G at *
    grind
  have t4 := ts_one.add t3
  rw [e] at t4
  rw [e]
  show _ ∧ _ ∧ _
  refine ⟨rfl, rfl, ?_⟩
  show ifB (PyData.eqv (nm (1 - c.conj * z / Cn.ofR g)) (nm 0)) _ _
  rw [eqv_nm, decide_eq_true hd]
  exact h
theorem T_led_to_pole (hz : Ts n z) (hu : Ts m u) (hc : Ts k c) (hg : Rs l g) (h0 : 0 < g) (hd : 1 - c.conj * z / Cn.ofR g = 0) (s1 : m + m + (n + k + 1 + (n + k + 1)) ≤ 9000) (s2 : (k + l + 2) + (k + l + 2) + (n + n) ≤ 9000)
    (s3 : (m + n + k + 2) + (m + n + k + 2) + ((n + k + l + 5) + (n + k + l + 5)) ≤ 9000) (s4 : 4 * (n + k + l + 5) ≤ 9000) (s5 : (m + n + k + 2) + 3 * (n + k + l + 5) + 2 ≤ 9000)
    (h : Φ .none) : F_led_to [.tuple [nm u, nm c], nm z, fr g] Φ := by
  unfold F_led_to mkF b_led_to
  refine ⟨rfl, ?_⟩
  exact T_led1_pole hz hu hc hg h0 hd s1 s2 s3 s4 s5 h
theorem T_led_any (hz : Ts 100 z) (hu : Ts 6 u) (h1 : u.nsq = 1) (hc : Ts 8 c) (hg : Rs 7 g) (h0 : 0 < g) (hcl : c.nsq < g) (hd : 1 - c.conj * z / Cn.ofR g ≠ 0) (h : Φ (nm (leadC u c g z))) : F_led [.tuple [nm u, nm c], nm z, fr g] Φ := by
  unfold F_led mkF b_led
  refine ⟨rfl, ?_⟩
  walk_at "ys"
  refine T_need_bound h0 ?_
  refine T_need_turn hu h1 hc hg hcl (by decide) (by decide) (by decide) ?_
  refine T_need_number ?_
  exact T_led_to hz hu hc hg h0 hd (by decide) (by decide) (by decide) (by decide) (by decide) h
theorem T_led_pole (hz : Ts 100 z) (hu : Ts 6 u) (h1 : u.nsq = 1) (hc : Ts 8 c) (hg : Rs 7 g) (h0 : 0 < g) (hcl : c.nsq < g) (hd : 1 - c.conj * z / Cn.ofR g = 0) (h : Φ .none) : F_led [.tuple [nm u, nm c], nm z, fr g] Φ := by
  unfold F_led mkF b_led
  refine ⟨rfl, ?_⟩
  walk_at "ys"
  refine T_need_bound h0 ?_
  refine T_need_turn hu h1 hc hg hcl (by decide) (by decide) (by decide) ?_
  refine T_need_number ?_
  exact T_led_to_pole hz hu hc hg h0 hd (by decide) (by decide) (by decide) (by decide) (by decide) h
theorem T_leads_any (hu : Ts n u) (hc : Ts m c) (hg : Rs 7 g) (h0 : 0 < g) (hz : Ts k z) (hd : 1 - c.conj * z / Cn.ofR g ≠ 0) (s : n + 3 * m + 3 * k + 50 ≤ 9000) (h : Φ (tq (leadC u c g z))) : F__law_leads [tq u, tq c, fr g, tq z] Φ := by
  unfold F__law_leads mkF b__law_leads
  refine ⟨rfl, ?_⟩
  walk_at "ys"
  refine T_lmirror ?_
  have t1 := hc.conj.mul hz
  refine T_lmul hc.conj hz (by omega) ?_
  refine T_real ?_
  refine T_lover t1 hg.tsR (gR_ne h0) (by omega) ?_
  have t2 := t1.div hg.tsR (gR_ne h0)
  have e : PyData.tuple [.int 1, .int 0, .int 1] = tq 1 := by
    rw [tq_lit1]
    congr 1
  rw [e]
  refine T_lless ts_one t2 (by omega) ?_
  have t3 := ts_one.sub t2
  refine T_lnought ?_
  have e2 : decide (ta (1 - c.conj * z / Cn.ofR g) = 0 ∧ tb (1 - c.conj * z / Cn.ofR g) = 0) = false := decide_eq_false fun k => hd (tq_zero.mp k)
  rw [e2]
  show F__law_less_2 [tq z, tq c] _
  refine T_lless hz hc (by omega) ?_
  refine T_lmul hu (hz.sub hc) (by omega) ?_
  exact T_lover (hu.mul (hz.sub hc)) t3 hd (by omega) h
theorem T_leads_pole (hu : Ts n u) (hc : Ts m c) (hg : Rs 7 g) (h0 : 0 < g) (hz : Ts k z) (hd : 1 - c.conj * z / Cn.ofR g = 0) (s : n + 3 * m + 3 * k + 50 ≤ 9000) (h : Φ .none) : F__law_leads [tq u, tq c, fr g, tq z] Φ := by
  unfold F__law_leads mkF b__law_leads
  refine ⟨rfl, ?_⟩
  walk_at "ys"
  refine T_lmirror ?_
  have t1 := hc.conj.mul hz
  refine T_lmul hc.conj hz (by omega) ?_
  refine T_real ?_
  refine T_lover t1 hg.tsR (gR_ne h0) (by omega) ?_
  have t2 := t1.div hg.tsR (gR_ne h0)
  have e : PyData.tuple [.int 1, .int 0, .int 1] = tq 1 := by
    rw [tq_lit1]
    congr 1
  rw [e]
  refine T_lless ts_one t2 (by omega) ?_
  have t3 := ts_one.sub t2
  refine T_lnought ?_
  have e2 : decide (ta (1 - c.conj * z / Cn.ofR g) = 0 ∧ tb (1 - c.conj * z / Cn.ofR g) = 0) = true := decide_eq_true (tq_zero.mpr hd)
  rw [e2]
  exact h
end


/-! QR: numbers to be led (for k46). -/
section
variable {Φ : PyData → Prop} {n m k l : Nat} {x y z w u v a b c : Cn} {p q g : Rat} {A : Addr}
theorem gauss_fin {most : Int} (h0 : 0 ≤ most) (h1 : most ≤ 1000000) (h : ∀ z, Ts 20 z → Φ (tq z)) (d : Int) (d0 : 0 < d) (d1 : d ≤ 5) {a b : Int} (a1 : -most ≤ a) (a2 : a ≤ most) (b1 : -most ≤ b) (b2 : b ≤ most) : F__law_cut_2 [.int a, .int b, .int d] Φ := by
  refine T_cut d0 (n := 20) (by unfold Bd; omega) (by decide) (h _ ⟨a, b, d, d0, ?_, ?_, ?_, rfl⟩)
  · unfold Bd; omega
  · unfold Bd; omega
  · unfold Bd; omega
theorem gauss_first {P : Post} (h : ∀ most d : Int, 0 ≤ most → most ≤ 1000000 → 0 < d → d ≤ 5 → P.N [.v (.ref A), .d (.int most), .d (.int d), .un, .un]) :
    (vPar 1 2 (vCons (vIf (vTest (vOp oEq (vCallQ 0 A F__law_draw (vCons (vC (.int 24)) vNil)) (vC (.int 23)))) (vOp oPow (vC (.int 10)) (vC (.int 6))) (vC (.int 4))) (vCons (vCallQ 0 A F__law_pick (vCons (vTup (vCons (vC (.int 1)) (vCons (vC (.int 1)) (vCons (vC (.int 1)) (vCons (vC (.int 2)) (vCons (vC (.int 2)) (vCons (vC (.int 3)) (vCons (vC (.int 5)) vNil)))))))) vNil)) vNil))) [.v (.ref A), .un, .un, .un, .un] P := by
  have pk : ∀ most : Int, 0 ≤ most → most ≤ 1000000 → F__law_pick A [.tuple [.int 1, .int 1, .int 1, .int 2, .int 2, .int 3, .int 5]] fun d => P.N [.v (.ref A), .d (.int most), .d d, .un, .un] := by
    intro most m0 m1
    refine T_pick (by decide) (by decide) fun d hd => ?_
    simp only [List.mem_cons, List.not_mem_nil, or_false] at hd
    rcases hd with rfl | rfl | rfl | rfl | rfl | rfl | rfl
    all_goals exact h most _ m0 m1 (by decide) (by decide)
  walk_at "ys"
  refine T_draw (by decide) (by decide) fun r _ _ => ?_
  refine ifB_in (fun _ => ?_) fun _ => ?_
  · show _ ∧ _
    exact ⟨⟨by decide, by decide, by decide⟩, pk _ (by decide) (by decide)⟩
  · exact pk 4 (by decide) (by decide)
theorem gauss_rest {P : Post} {most d : Int} (m0 : 0 ≤ most) (m1 : most ≤ 1000000) (d0 : 0 < d) (d1 : d ≤ 5) (h : ∀ z, Ts 20 z → P.R (tq z)) :
    (vSeqS (vAsg 3 (vOp oSub (vCallQ 0 A F__law_draw (vCons (vOp oAdd (vOp oMul (vC (.int 2)) (vVar 1)) (vC (.int 1))) vNil)) (vVar 1))) (vSeqS (vAsg 4 (vIf (vTest (vOp oGt (vCallQ 0 A F__law_draw (vCons (vC (.int 3)) vNil)) (vC (.int 0)))) (vOp oSub (vCallQ 0 A F__law_draw (vCons (vOp oAdd (vOp oMul (vC (.int 2)) (vVar 1)) (vC (.int 1))) vNil)) (vVar 1)) (vC (.int 0)))) (vRet (vCall F__law_cut_2 (vCons (vVar 3) (vCons (vVar 4) (vCons (vVar 2) vNil))))))) [.v (.ref A), .d (.int most), .d (.int d), .un, .un] P := by
  have hm : CMulX 2 most ∨ CMul 2 most := Or.inr (Or.inl ⟨by decide, by decide⟩)
  walk_at "ys"
  refine ⟨hm, T_draw (by omega) (by omega) fun a a1 a2 => ?_⟩
  walk_at "ys"
  refine T_draw (by decide) (by decide) fun r _ _ => ?_
  refine ifB_in (fun _ => ?_) fun _ => ?_
  · refine ⟨hm, T_draw (by omega) (by omega) fun b b1 b2 => ?_⟩
    exact gauss_fin m0 m1 h d d0 d1 (by omega) (by omega) (by omega) (by omega)
  · exact gauss_fin m0 m1 h d d0 d1 (by omega) (by omega) (by omega) (by omega)
theorem T_gauss (h : ∀ z, Ts 20 z → Φ (tq z)) : F__law_gauss A [] Φ := by
  unfold F__law_gauss mkQ b__law_gauss
  refine ⟨rfl, ?_⟩
  show vSeqS _ _ _ _
  refine gauss_first fun most d m0 m1 d0 d1 => ?_
  exact gauss_rest m0 m1 d0 d1 h
theorem T_numbers (hg : Bo g) (hc : Dz g c) (h : ∀ L : List Cn, L.length ≤ 6 → (∀ x ∈ L, Ts 100 x) → Φ (.list (L.map tq))) : F__law_numbers A [tq c, fr g] Φ := by
  have hr := hg.rs
  have e0 : PyData.tuple [.int 0, .int 0, .int 1] = tq 0 := by
    rw [tq_lit1]
    congr 1
  unfold F__law_numbers mkQ b__law_numbers
  refine ⟨rfl, ?_⟩
  walk_at "ys"
  refine T_within hg fun a ha => ?_
  refine T_gauss fun b hb => ?_
  refine T_unit fun u hu => ?_
  refine ⟨mul9 hr.1 hr.2 (by decide), ?_⟩
  have hp := hg.pr
  have hn := Int.mul_pos hg.n0 (den_pos g)
  have e : g.num * (g.den : Int) = (((g.num * g.den).toNat : Nat) : Int) := by omega
  rw [e]
  refine T_root (by omega) (by omega) fun r r1 r2 r3 => ?_
  refine T_cut (den_pos g) hr.2 (by decide) ?_
  rw [tq_re0]
  have hq : Rs 9 (qd (r : Int) (g.den : Int)) := rs_of (by unfold Bd; omega) (hr.2.mono (by decide)) (den_ne g)
  refine T_lmul hu.ts hq.tsR (by decide) ?_
  have tu := hu.ts.mul hq.tsR
  rw [e0]
  have all5 : ∀ x ∈ [a, b, 0, c, u * Cn.ofR (qd (r : Int) (g.den : Int))], Ts 100 x := by
    intro x hx
    simp only [List.mem_cons, List.not_mem_nil, or_false] at hx
    rcases hx with rfl | rfl | rfl | rfl | rfl
    · exact ha.ts.mono (by decide)
    · exact hb.mono (by decide)
    · exact ts_zero.mono (by decide)
    · exact hc.ts.mono (by decide)
    · exact tu.mono (by decide)
  refine T_lnought ?_
  by_cases z : c = 0
  · have e2 : decide (ta c = 0 ∧ tb c = 0) = true := decide_eq_true (tq_zero.mpr z)
    rw [e2]
    exact h [a, b, 0, c, u * Cn.ofR (qd (r : Int) (g.den : Int))] (by simp only [List.length_cons, List.length_nil]; decide) all5
  · have e2 : decide (ta c = 0 ∧ tb c = 0) = false := decide_eq_false fun k => z (tq_zero.mp k)
    rw [e2]
    show _ ∧ _
    refine ⟨(show 5 < sizeLine by rw [sizeLine_eq]; decide), ?_⟩
    refine T_real ?_
    refine T_lmirror ?_
    refine T_lover hr.tsR hc.ts.conj (conj_ne z) (by decide) ?_
    have tl := hr.tsR.div hc.ts.conj (conj_ne z)
    refine h [a, b, 0, c, u * Cn.ofR (qd (r : Int) (g.den : Int)), Cn.ofR g / c.conj] (by simp only [List.length_cons, List.length_nil]; decide) fun x hx => ?_
    simp only [List.mem_cons, List.not_mem_nil, or_false] at hx
    rcases hx with hx | hx | hx | hx | hx | rfl
    · exact all5 x (by rw [hx]; exact List.mem_cons_self ..)
    · exact all5 x (by rw [hx]; simp)
    · exact all5 x (by rw [hx]; simp)
    · exact all5 x (by rw [hx]; simp)
    · exact all5 x (by rw [hx]; simp)
    · exact tl.mono (by decide)
end


/-! QV: any turn of some size, led at any number (for k46). -/
def Pole (c : Cn) (g : Rat) (z : Cn) : Prop := 1 - c.conj * z / Cn.ofR g = 0
instance (c : Cn) (g : Rat) (z : Cn) : Decidable (Pole c g z) := inferInstanceAs (Decidable (1 - c.conj * z / Cn.ofR g = 0))
def ledN (u c : Cn) (g : Rat) (z : Cn) : PyData := if Pole c g z then .none else nm (leadC u c g z)
noncomputable def ledT (u c : Cn) (g : Rat) (z : Cn) : PyData := if Pole c g z then .none else tq (leadC u c g z)
section
variable {Φ : PyData → Prop} {n m k l : Nat} {x y z w u v a b c t : Cn} {p q g : Rat} {A : Addr} {P : Post}
theorem T_led_all (hz : Ts 400 z) (hu : Ts 150 u) (h1 : u.nsq = 1) (hc : Ts 150 c) (hg : Rs 7 g) (h0 : 0 < g) (hcl : c.nsq < g) (h : Φ (ledN u c g z)) : F_led [.tuple [nm u, nm c], nm z, fr g] Φ := by
  unfold F_led mkF b_led
  refine ⟨rfl, ?_⟩
  walk_at "ys"
  refine T_need_bound h0 ?_
  refine T_need_turn hu h1 hc hg hcl (by decide) (by decide) (by decide) ?_
  refine T_need_number ?_
  unfold ledN at h
  by_cases hd : Pole c g z
  · rw [if_pos hd] at h
    exact T_led_to_pole hz hu hc hg h0 hd (by decide) (by decide) (by decide) (by decide) (by decide) h
  · rw [if_neg hd] at h
    exact T_led_to hz hu hc hg h0 hd (by decide) (by decide) (by decide) (by decide) (by decide) h
theorem T_leads_all (hu : Ts n u) (hc : Ts m c) (hg : Rs 7 g) (h0 : 0 < g) (hz : Ts k z) (s : n + 3 * m + 3 * k + 50 ≤ 9000) (h : Φ (ledT u c g z)) : F__law_leads [tq u, tq c, fr g, tq z] Φ := by
  unfold ledT at h
  by_cases hd : Pole c g z
  · rw [if_pos hd] at h
    exact T_leads_pole hu hc hg h0 hz hd s h
  · rw [if_neg hd] at h
    exact T_leads_any hu hc hg h0 hz hd s h
theorem T_maybe_all (hz : Ts n z) (hu : Ts m u) (hc : Ts k c) (hg : Rs l g) (h0 : 0 < g) (s : (m + (n + k + 1) + 1) + (k + n + 1 + l + 2) + (k + n + 1 + l + 2) + 1 ≤ 9000) (h : Φ (ledN u c g z)) : F__law_maybe [ledT u c g z] Φ := by
  unfold ledT
  unfold ledN at h
  by_cases hd : Pole c g z
  · rw [if_pos hd] at h
    rw [if_pos hd]
    exact T_maybe0 h
  · rw [if_neg hd] at h
    rw [if_neg hd]
    exact T_maybe (lead_ts hz hu hc hg h0 hd) s h
theorem ledN_ok (hz : Ts 400 z) (hu : Ts 150 u) (hc : Ts 150 c) (hg : Rs 7 g) (h0 : 0 < g) : Shw (ledN u c g z) ∧ cnt (ledN u c g z) ≤ 100 ∧ PyData.depth (ledN u c g z) ≤ 10 := by
  unfold ledN
  by_cases hd : Pole c g z
  · rw [if_pos hd]
    exact ⟨shw_none, by simp only [cnt]; decide, by simp only [PyData.depth]; decide⟩
  · rw [if_neg hd]
    have ht := (lead_ts hz hu hc hg h0 hd).mono (show _ ≤ 1900 by decide)
    exact ⟨shw_nm ht.cs, by simp only [nm, fr, cnt, cntAll]; decide, by simp only [nm, fr, PyData.depth, PyData.depthAll]; decide⟩
theorem nm_ok (hx : Cs 1900 x) : Shw (nm x) ∧ cnt (nm x) ≤ 100 ∧ PyData.depth (nm x) ≤ 10 :=
  ⟨shw_nm hx, by simp only [nm, fr, cnt, cntAll]; decide, by simp only [nm, fr, PyData.depth, PyData.depthAll]; decide⟩
theorem turn_ok (hx : Cs 1900 x) (hy : Cs 1900 y) : Shw (.tuple [nm x, nm y]) ∧ cnt (.tuple [nm x, nm y]) ≤ 100 ∧ PyData.depth (.tuple [nm x, nm y]) ≤ 10 :=
  ⟨shw_t (shw_cons (shw_nm hx) (shw_cons (shw_nm hy) shw_nil)), by simp only [nm, fr, cnt, cntAll]; decide, by simp only [nm, fr, PyData.depth, PyData.depthAll]; decide⟩
theorem bool_ok {b : Bool} : Shw (.bool b) ∧ cnt (.bool b) ≤ 100 ∧ PyData.depth (.bool b) ≤ 10 := ⟨shw_bool, by simp only [cnt]; decide, by simp only [PyData.depth]; decide⟩
theorem ne_ledT (h : Φ (.bool false)) : oNe (ledT u c g z) (ledT u c g z) Φ := by
  unfold ledT
  by_cases hd : Pole c g z
  · rw [if_pos hd]
    exact ⟨rfl, rfl, h⟩
  · rw [if_neg hd]
    exact ⟨rfl, rfl, by rw [eqv_tq, decide_eq_true rfl]; exact h⟩
/-! ### the poles of one turn behind another -/
theorem pole_far (h0 : 0 < g) : Pole c g z ↔ Cn.ofR g - c.conj * z = 0 := by
  unfold Pole
  rw [den_eq h0]
  have h := gR_ne h0
  generalize Cn.ofR g - c.conj * z = s at *
  generalize Cn.ofR g = G at *
  constructor
  · intro k
    have e : s = s / G * G := by grind
    rw [e, k]
    grind
  · intro k
    rw [k]
    grind
theorem behind_pole (hg : 0 < g) (ha : a.nsq < g) (hb : b.nsq < g) (hu : u.nsq = 1) (h1 : ¬ Pole a g t) : Pole ((u * a + b) / (u + b * a.conj / Cn.ofR g)) g t ↔ Pole b g (leadC u a g t) := by
  have hD : Cn.ofR g - a.conj * t ≠ 0 := fun k => h1 ((pole_far hg).mpr k)
  have uu := un_conj hu
  have hG := gR_ne hg
  have gc : (Cn.ofR g).conj = Cn.ofR g := conj_ofR g
  have hζ : (0 - u.conj * b).nsq < g := by rw [nsq_neg]; rw [show u.conj * b - 0 = u.conj * b by grind, nsq_mul', nsq_conj, hu]; grind
  have hs0 := far_ne hg ha hζ
  have hu0 : u ≠ 0 := (nsq_ne u).mp (by rw [hu]; decide)
  have es : Cn.ofR g * u + b * a.conj = u * (Cn.ofR g - a.conj * (0 - u.conj * b)) := by
    generalize u.conj = ub at *
    generalize a.conj = ab at *
    generalize Cn.ofR g = G at *
    clear hs0
    grind
  have s0 : Cn.ofR g * u + b * a.conj ≠ 0 := by rw [es]; exact mul_ne' hu0 hs0
  have esb : (Cn.ofR g * u + b * a.conj).conj = Cn.ofR g * u.conj + b.conj * a := by
    rw [conj_add, conj_mul, conj_mul, conj_conj, gc]
  have sb0 : Cn.ofR g * u.conj + b.conj * a ≠ 0 := by rw [← esb]; exact conj_ne s0
  have ec : u + b * a.conj / Cn.ofR g = (Cn.ofR g * u + b * a.conj) / Cn.ofR g := by
    generalize b * a.conj = r at *
    generalize Cn.ofR g = G at *
    clear es s0 esb sb0 hs0
    grind
  have eC : (u * a + b) / (u + b * a.conj / Cn.ofR g) = (u * a + b) * Cn.ofR g / (Cn.ofR g * u + b * a.conj) := by
    rw [ec]
    generalize Cn.ofR g * u + b * a.conj = s at *
    generalize u * a + b = r at *
    clear es esb hs0 ec
    grind
  have eCb : ((u * a + b) * Cn.ofR g / (Cn.ofR g * u + b * a.conj)).conj = (u.conj * a.conj + b.conj) * Cn.ofR g / (Cn.ofR g * u.conj + b.conj * a) := by
    rw [conj_div _ _ s0, conj_mul, conj_add, conj_mul, gc, esb]
  have hη : leadC u a g t * (Cn.ofR g - a.conj * t) = Cn.ofR g * (u * (t - a)) := by
    unfold leadC
    rw [den_eq hg]
    generalize Cn.ofR g - a.conj * t = D at *
    generalize u * (t - a) = q at *
    clear es esb hs0 ec eC eCb s0 sb0
    grind
  rw [eC, pole_far (c := b) hg]
  unfold Pole
  rw [eCb]
  generalize leadC u a g t = η at *
  generalize b.conj = bb at *
  generalize u.conj = ub at *
  generalize a.conj = ab at *
  generalize Cn.ofR g = G at *
  clear es hs0 ec eC eCb esb s0
  have k1 : (G - bb * η) * (G - ab * t) = G * (u * ((G * ub + bb * a) - (ub * ab + bb) * t)) := by
    have e1 : (G - bb * η) * (G - ab * t) = G * (G - ab * t) - bb * (η * (G - ab * t)) := by grind
    rw [e1, hη]
    clear hη e1 sb0
    grind
  have e2 : (ub * ab + bb) * G / (G * ub + bb * a) * t / G = (ub * ab + bb) * t / (G * ub + bb * a) := by
    generalize ub * ab + bb = r at *
    generalize G * ub + bb * a = sb at *
    clear k1 hη hD uu
    grind
  have e3 : 1 - (ub * ab + bb) * G / (G * ub + bb * a) * t / G = ((G * ub + bb * a) - (ub * ab + bb) * t) / (G * ub + bb * a) := by
    rw [e2]
    generalize (ub * ab + bb) * t = r at *
    generalize G * ub + bb * a = sb at *
    clear k1 hη hD uu e2
    grind
  rw [e3]
  generalize (G * ub + bb * a) - (ub * ab + bb) * t = W at *
  generalize G * ub + bb * a = sb at *
  clear e2 e3 hη uu
  constructor
  · intro h
    have h2 : W = 0 := by
      have e : W = W / sb * sb := by grind
      rw [e, h]
      grind
    rw [h2] at k1
    refine cancel' hD ?_
    rw [k1]
    grind
  · intro h
    have h2 : W = 0 := by
      rw [h] at k1
      have : G * u * W = G * u * 0 := by
        have e : G * u * W = G * (u * W) := by grind
        rw [e, ← k1]
        grind
      have hGu := mul_ne' hG hu0
      generalize G * u = r at *
      have e : W = r * W * r⁻¹ := by grind
      rw [e, this]
      grind
    rw [h2]
    grind
/-- one turn behind another: what it makes of any number -/
theorem behind_led (hg : 0 < g) (ha : a.nsq < g) (hb : b.nsq < g) (hu : u.nsq = 1) (hv : v.nsq = 1) (h1 : ¬ Pole a g t) :
    ledT (v * u.conj * (u + b * a.conj / Cn.ofR g) / (u + b * a.conj / Cn.ofR g).conj) ((u * a + b) / (u + b * a.conj / Cn.ofR g)) g t = ledT v b g (leadC u a g t) := by
  have B := behind_ok hg ha hb hu hv
  have hp := behind_pole hg ha hb hu h1
  unfold ledT
  by_cases hd : Pole b g (leadC u a g t)
  · rw [if_pos hd, if_pos (hp.mpr hd)]
  · rw [if_neg hd, if_neg fun k => hd (hp.mp k)]
    rw [B.at_ t (fun k => h1 ((pole_far hg).mpr k)) (fun k => hd ((pole_far hg).mpr k))]
/-- led, and back -/
theorem back_led (hg : 0 < g) (hc : c.nsq < g) (hu : u.nsq = 1) (h1 : ¬ Pole c g t) : ledN u.conj (0 - u * c) g (leadC u c g t) = nm t := by
  have hD : Cn.ofR g - c.conj * t ≠ 0 := fun k => h1 ((pole_far hg).mpr k)
  have uu := un_conj hu
  have hG := gR_ne hg
  unfold ledN
  have hη : leadC u c g t * (Cn.ofR g - c.conj * t) = Cn.ofR g * (u * (t - c)) := by
    unfold leadC
    rw [den_eq hg]
    generalize Cn.ofR g - c.conj * t = D at *
    generalize u * (t - c) = q at *
    grind
  have hN : Cn.ofR g - c * c.conj ≠ 0 := by
    rw [mul_conj, ofR_subs]
    exact ofR_ne (by grind)
  have ec : (0 - u * c).conj = 0 - u.conj * c.conj := by rw [conj_sub, conj_mul, conj_zero]
  have np : ¬ Pole (0 - u * c) g (leadC u c g t) := by
    rw [pole_far hg, ec]
    intro k
    generalize leadC u c g t = η at *
    generalize c.conj = cb at *
    generalize u.conj = ub at *
    generalize Cn.ofR g = G at *
    have e : (G - (0 - ub * cb) * η) * (G - cb * t) = G * (G - c * cb) := by
      have e1 : (G - (0 - ub * cb) * η) * (G - cb * t) = G * (G - cb * t) + ub * cb * (η * (G - cb * t)) := by grind
      rw [e1, hη]
      have e2 : ub * cb * (G * (u * (t - c))) = u * ub * (cb * (G * (t - c))) := by grind
      rw [e2, uu]
      clear e1 e2 hη hN k
      grind
    rw [k] at e
    refine mul_ne' hG hN ?_
    rw [← e]
    grind
  rw [if_neg np, lead_back hg hc hu hD]
end


/-! QW: turns led back and behind each other, at drawn numbers (for k46). -/
section
variable {Φ : PyData → Prop} {n m k l : Nat} {x y z w u v a b c t U C : Cn} {p q g : Rat} {A : Addr} {P : Post} {L : PyData} {s : Sl}
theorem T_reprG {d : PyData} (h1 : Shw d ∧ cnt d ≤ 1000 ∧ PyData.depth d ≤ 20) (h : ∀ s : Str, s = PyData.shown d → Φ (.str s)) : oRepr [d] Φ :=
  T_repr h1.1 (by have a := h1.2.1; omega) (by have a := h1.2.2; omega) (h _ rfl)
theorem ne_str {s1 s2 : Str} {d : PyData} (e1 : s1 = PyData.shown d) (e2 : s2 = PyData.shown d) (h : Φ (.bool false)) : oNe (.str s1) (.str s2) Φ := by
  show Φ (.bool (!decide (s1 = s2)))
  rw [decide_eq_true (e1.trans e2.symm)]
  exact h
theorem eq_str {s1 s2 : Str} {d : PyData} (e1 : s1 = PyData.shown d) (e2 : s2 = PyData.shown d) (h : Φ (.bool true)) : oEq (.str s1) (.str s2) Φ := by
  show Φ (.bool (decide (s1 = s2)))
  rw [decide_eq_true (e1.trans e2.symm)]
  exact h
theorem okm {d : PyData} (h : Shw d ∧ cnt d ≤ 100 ∧ PyData.depth d ≤ 10) : Shw d ∧ cnt d ≤ 1000 ∧ PyData.depth d ≤ 20 := ⟨h.1, Nat.le_trans h.2.1 (by decide), Nat.le_trans h.2.2 (by decide)⟩
theorem ok2 {d e : PyData} (h1 : Shw d ∧ cnt d ≤ 100 ∧ PyData.depth d ≤ 10) (h2 : Shw e ∧ cnt e ≤ 100 ∧ PyData.depth e ≤ 10) : Shw (.list [d, e]) ∧ cnt (.list [d, e]) ≤ 1000 ∧ PyData.depth (.list [d, e]) ≤ 20 :=
  ⟨shw_l (shw_cons h1.1 (shw_cons h2.1 shw_nil)), by have a := h1.2.1; have b := h2.2.1; simp only [cnt, cntAll]; omega, by have a := h1.2.2; have b := h2.2.2; simp only [PyData.depth, PyData.depthAll]; omega⟩
theorem none_ok : Shw .none ∧ cnt .none ≤ 100 ∧ PyData.depth .none ≤ 10 := ⟨shw_none, by simp only [cnt]; decide, by simp only [PyData.depth]; decide⟩
def ledBody : WS := (vSeqS (vAsg 10 (vCall F__law_leads (vCons (vOp oIx (vVar 0) (vC (.int 0))) (vCons (vOp oIx (vVar 0) (vC (.int 1))) (vCons (vVar 2) (vCons (vVar 9) vNil)))))) (vSeqS (vIfS (vTest (vOp oNe (vB oRepr (vCons (vOf (vCons (vCallD F_led [] (vCons (vVar 4) (vCons (vCall F__law_number_2 (vCons (vVar 9) vNil)) (vCons (vVar 2) vNil)))) (vCons (vCallK F_led kp_3_210 (vCons (vVar 2) (vCons (vCall F__law_number_2 (vCons (vVar 9) vNil)) (vCons (vVar 4) vNil)))) vNil))) vNil)) (vB oRepr (vCons (vOf (vRep (vCons (vCall F__law_maybe (vCons (vVar 10) vNil)) vNil) (vC (.int 2)))) vNil)))) (vRet (vC (.bool false))) vNext) (vSeqS (vIfS (vAnd (vTest (vOp oNotN (vVar 10) (vC (.none)))) (vTest (vOp oNe (vB oRepr (vCons (vCallD F_led [] (vCons (vVar 5) (vCons (vCall F__law_number_2 (vCons (vVar 10) vNil)) (vCons (vVar 2) vNil)))) vNil)) (vB oRepr (vCons (vCall F__law_number_2 (vCons (vVar 9) vNil)) vNil))))) (vRet (vC (.bool false))) vNext) (vSeqS (vIfS (vAnd (vTest (vOp oNotN (vVar 10) (vC (.none)))) (vTest (vOp oNe (vCall F__law_leads (vCons (vVar 7) (vCons (vVar 8) (vCons (vVar 2) (vCons (vVar 9) vNil))))) (vCall F__law_leads (vCons (vOp oIx (vVar 1) (vC (.int 0))) (vCons (vOp oIx (vVar 1) (vC (.int 1))) (vCons (vVar 2) (vCons (vVar 10) vNil)))))))) (vRet (vC (.bool false))) vNext) (vIfS (vAnd (vTest (vOp oNotN (vVar 10) (vC (.none)))) (vTest (vOp oNe (vB oRepr (vCons (vCallD F_led [] (vCons (vVar 6) (vCons (vCall F__law_number_2 (vCons (vVar 9) vNil)) (vCons (vVar 2) vNil)))) vNil)) (vB oRepr (vCons (vCall F__law_maybe (vCons (vCall F__law_leads (vCons (vVar 7) (vCons (vVar 8) (vCons (vVar 2) (vCons (vVar 9) vNil))))) vNil)) vNil))))) (vRet (vC (.bool false))) vNext)))))
theorem step_pole (hg : Bo g) (hu : Un u) (ha : Dz g a) (hx : Ts 100 x) (hd : Pole a g x) (hP : P.N [.d (.tuple [tq u, tq a]), .d (.tuple [tq v, tq b]), .d (fr g), .d L, .d (.tuple [nm u, nm a]), .d (.tuple [nm u.conj, nm (0 - u * a)]), .d (.tuple [nm U, nm C]), .d (tq U), .d (tq C), .d (tq x), .d .none]) :
    ledBody [.d (.tuple [tq u, tq a]), .d (.tuple [tq v, tq b]), .d (fr g), .d L, .d (.tuple [nm u, nm a]), .d (.tuple [nm u.conj, nm (0 - u * a)]), .d (.tuple [nm U, nm C]), .d (tq U), .d (tq C), .d (tq x), s] P := by
  unfold ledBody
  walk_at "zs"
  refine T_leads_pole hu.ts ha.ts hg.rs hg.pos hx hd (by decide) ?_
  walk_at "zs"
  refine T_lnumber hx (by decide) ?_
  refine T_led_pole hx hu.ts hu.un ha.ts hg.rs hg.pos ha.lt hd ?_
  refine T_lnumber hx (by decide) ?_
  refine T_led_pole hx hu.ts hu.un ha.ts hg.rs hg.pos ha.lt hd ?_
  refine T_reprG (ok2 none_ok none_ok) fun s1 e1 => ?_
  refine T_maybe0 ?_
  walk_at "zs"
  refine ⟨⟨by decide, by decide, by rw [sizeLine_eq]; decide⟩, ?_⟩
  refine T_reprG (d := .list [.none, .none]) (ok2 none_ok none_ok) fun s2 e2 => ?_
  refine ne_str e1 e2 ?_
  walk_at "zs"
  exact hP
theorem step_any (hg : Bo g) (hu : Un u) (ha : Dz g a) (hv : Un v) (hb : Dz g b) (hx : Ts 100 x) (hd : ¬ Pole a g x) (hU : Ts 108 U) (hU1 : U.nsq = 1) (hC : Ts 87 C) (hCl : C.nsq < g)
    (hB : ledT U C g x = ledT v b g (leadC u a g x)) (hP : P.N [.d (.tuple [tq u, tq a]), .d (.tuple [tq v, tq b]), .d (fr g), .d L, .d (.tuple [nm u, nm a]), .d (.tuple [nm u.conj, nm (0 - u * a)]), .d (.tuple [nm U, nm C]), .d (tq U), .d (tq C), .d (tq x), .d (tq (leadC u a g x))]) :
    ledBody [.d (.tuple [tq u, tq a]), .d (.tuple [tq v, tq b]), .d (fr g), .d L, .d (.tuple [nm u, nm a]), .d (.tuple [nm u.conj, nm (0 - u * a)]), .d (.tuple [nm U, nm C]), .d (tq U), .d (tq C), .d (tq x), s] P := by
  unfold ledBody
  have hη : Ts 400 (leadC u a g x) := (lead_ts hx hu.ts ha.ts hg.rs hg.pos hd).mono (by decide)
  have hw : Ts 17 (0 - u * a) := (Ts.sub ts_zero (hu.ts.mul ha.ts)).mono (by decide)
  have hwl : (0 - u * a).nsq < g := by
    rw [nsq_neg, show u * a - 0 = u * a by grind, nsq_mul', hu.un]
    have := ha.lt
    grind
  walk_at "zs"
  refine T_leads_any hu.ts ha.ts hg.rs hg.pos hx hd (by decide) ?_
  walk_at "zs"
  refine T_lnumber hx (by decide) ?_
  refine T_led_any hx hu.ts hu.un ha.ts hg.rs hg.pos ha.lt hd ?_
  refine T_lnumber hx (by decide) ?_
  refine T_led_any hx hu.ts hu.un ha.ts hg.rs hg.pos ha.lt hd ?_
  have okη := nm_ok (hη.cs.mono (by decide))
  refine T_reprG (ok2 okη okη) fun s1 e1 => ?_
  refine T_maybe hη (by decide) ?_
  walk_at "zs"
  refine ⟨⟨by decide, by decide, by rw [sizeLine_eq]; decide⟩, ?_⟩
  refine T_reprG (d := .list [nm (leadC u a g x), nm (leadC u a g x)]) (ok2 okη okη) fun s2 e2 => ?_
  refine ne_str e1 e2 ?_
  walk_at "zs"
  have en : isNone (tq (leadC u a g x)) = false := rfl
  rw [en]
  walk_at "zs"
  refine T_lnumber hη (by decide) ?_
  refine T_led_all hη (hu.ts.conj.mono (by decide)) (by rw [nsq_conj]; exact hu.un) (hw.mono (by decide)) hg.rs hg.pos hwl ?_
  rw [back_led hg.pos ha.lt hu.un hd]
  have okx := okm (nm_ok (hx.cs.mono (by decide)))
  refine T_reprG okx fun s3 e3 => ?_
  refine T_lnumber hx (by decide) ?_
  refine T_reprG okx fun s4 e4 => ?_
  refine ne_str e3 e4 ?_
  walk_at "zs"
  refine T_leads_all hU hC hg.rs hg.pos hx (by decide) ?_
  refine T_leads_all hv.ts hb.ts hg.rs hg.pos hη (by decide) ?_
  rw [← hB]
  refine ne_ledT ?_
  walk_at "zs"
  refine T_lnumber hx (by decide) ?_
  refine T_led_all (hx.mono (by decide)) (hU.mono (by decide)) hU1 (hC.mono (by decide)) hg.rs hg.pos hCl ?_
  have okl := okm (ledN_ok (hx.mono (by decide)) (hU.mono (show 108 ≤ 150 by decide)) (hC.mono (show 87 ≤ 150 by decide)) hg.rs hg.pos)
  refine T_reprG okl fun s5 e5 => ?_
  refine T_leads_all hU hC hg.rs hg.pos hx (by decide) ?_
  refine T_maybe_all hx hU hC hg.rs hg.pos (by decide) ?_
  refine T_reprG okl fun s6 e6 => ?_
  refine ne_str e5 e6 ?_
  walk_at "zs"
  exact hP
theorem led_loop (hg : Bo g) (hu : Un u) (ha : Dz g a) (hv : Un v) (hb : Dz g b) (hU : Ts 108 U) (hU1 : U.nsq = 1) (hC : Ts 87 C) (hCl : C.nsq < g)
    (hB : ∀ x, ¬ Pole a g x → ledT U C g x = ledT v b g (leadC u a g x)) (hP : ∀ s t : Sl, P.N [.d (.tuple [tq u, tq a]), .d (.tuple [tq v, tq b]), .d (fr g), .d L, .d (.tuple [nm u, nm a]), .d (.tuple [nm u.conj, nm (0 - u * a)]), .d (.tuple [nm U, nm C]), .d (tq U), .d (tq C), s, t]) (M : List Cn) (hM : ∀ x ∈ M, Ts 100 x) : ∀ s t : Sl,
    forW (vgN 9) ledBody (M.map tq) [.d (.tuple [tq u, tq a]), .d (.tuple [tq v, tq b]), .d (fr g), .d L, .d (.tuple [nm u, nm a]), .d (.tuple [nm u.conj, nm (0 - u * a)]), .d (.tuple [nm U, nm C]), .d (tq U), .d (tq C), s, t] P := by
  induction M with
  | nil => exact hP
  | cons x M ih0 =>
    intro s t
    have ih := ih0 fun y hy => hM y (List.mem_cons_of_mem _ hy)
    have hx := hM x (List.mem_cons_self ..)
    have step : ∀ P' : Post, (∀ s t : Sl, P'.N [.d (.tuple [tq u, tq a]), .d (.tuple [tq v, tq b]), .d (fr g), .d L, .d (.tuple [nm u, nm a]), .d (.tuple [nm u.conj, nm (0 - u * a)]), .d (.tuple [nm U, nm C]), .d (tq U), .d (tq C), s, t]) → ledBody [.d (.tuple [tq u, tq a]), .d (.tuple [tq v, tq b]), .d (fr g), .d L, .d (.tuple [nm u, nm a]), .d (.tuple [nm u.conj, nm (0 - u * a)]), .d (.tuple [nm U, nm C]), .d (tq U), .d (tq C), .d (tq x), t] P' := by
      intro P' hP'
      by_cases hd : Pole a g x
      · exact step_pole hg hu ha hx hd (hP' _ _)
      · exact step_any hg hu ha hv hb hx hd hU hU1 hC hCl (hB x hd) (hP' _ _)
    exact step ⟨fun E2 => forW (vgN 9) ledBody (M.map tq) E2 P, P.R, P.N, fun E2 => forW (vgN 9) ledBody (M.map tq) E2 P⟩ ih
theorem T_led_right (hg : Bo g) (hu : Un u) (ha : Dz g a) (hv : Un v) (hb : Dz g b) {M : List Cn} (hM : ∀ x ∈ M, Ts 100 x) (h : Φ (.bool true)) :
    F__law_led_right [.tuple [tq u, tq a], .tuple [tq v, tq b], fr g, .list (M.map tq)] Φ := by
  have B := behind_ok hg.pos ha.lt hb.lt hu.un hv.un
  have t1 : Ts 17 (b * a.conj) := hb.ts.mul ha.ts.conj
  have t2 : Ts 24 (b * a.conj / Cn.ofR g) := div_ts t1 hg.rs hg.pos
  have t3 : Ts 31 (u + b * a.conj / Cn.ofR g) := hu.ts.add t2
  have t4 : Ts 13 (v * u.conj) := hv.ts.mul hu.ts.conj
  have t5 : Ts 45 (v * u.conj * (u + b * a.conj / Cn.ofR g)) := t4.mul t3
  have t6 : Ts 15 (u * a) := hu.ts.mul ha.ts
  have t7 : Ts 24 (u * a + b) := t6.add hb.ts
  have tU : Ts 108 (v * u.conj * (u + b * a.conj / Cn.ofR g) / (u + b * a.conj / Cn.ofR g).conj) := t5.div t3.conj (conj_ne B.ne)
  have tC : Ts 87 ((u * a + b) / (u + b * a.conj / Cn.ofR g)) := t7.div t3 B.ne
  have hw : Ts 17 (0 - u * a) := Ts.sub ts_zero t6
  have hwl : (0 - u * a).nsq < g := by
    rw [nsq_neg, show u * a - 0 = u * a by grind, nsq_mul', hu.un]
    have := ha.lt
    grind
  have e0 : PyData.tuple [.int 0, .int 0, .int 1] = tq 0 := by
    rw [tq_lit1]
    congr 1
  have okw := turn_ok (hu.ts.conj.cs.mono (show _ ≤ 1900 by decide)) (hw.cs.mono (show _ ≤ 1900 by decide))
  have okb := okm (turn_ok (tU.cs.mono (show _ ≤ 1900 by decide)) (tC.cs.mono (show _ ≤ 1900 by decide)))
  unfold F__law_led_right mkF b__law_led_right
  refine ⟨rfl, ?_⟩
  walk_at "zs"
  refine T_lturn hu.ts ha.ts (by decide) (by decide) ?_
  walk_at "zs"
  refine T_lmirror ?_
  refine T_lnumber hu.ts.conj (by decide) ?_
  refine T_lmul hu.ts ha.ts (by decide) ?_
  rw [e0]
  refine T_lless ts_zero t6 (by decide) ?_
  refine T_lnumber hw (by decide) ?_
  walk_at "zs"
  refine T_back hu.ts hu.un ha.ts (by decide) (by decide) ?_
  refine T_back hu.ts hu.un ha.ts (by decide) (by decide) ?_
  refine T_reprG (ok2 okw okw) fun s1 e1 => ?_
  refine ⟨⟨by decide, by decide, by rw [sizeLine_eq]; decide⟩, ?_⟩
  refine T_reprG (d := .list [.tuple [nm u.conj, nm (0 - u * a)], .tuple [nm u.conj, nm (0 - u * a)]]) (ok2 okw okw) fun s2 e2 => ?_
  refine ne_str e1 e2 ?_
  walk_at "zs"
  refine T_lis_turn hu.ts.conj (by rw [nsq_conj]; exact hu.un) hw hg.rs hwl (by decide) (by decide) ?_
  walk_at "zs"
  refine T_lturn hv.ts hb.ts (by decide) (by decide) ?_
  refine T_behind hu ha hv hb hg B.ne ?_
  walk_at "zs"
  refine T_lis_turn tU B.un tC hg.rs B.ce (by decide) (by decide) ?_
  walk_at "zs"
  refine T_lturn hv.ts hb.ts (by decide) (by decide) ?_
  refine T_behind hu ha hv hb hg B.ne ?_
  refine T_reprG okb fun s3 e3 => ?_
  refine T_reprG okb fun s4 e4 => ?_
  refine ne_str e3 e4 ?_
  walk_at "zs"
  refine T_lread tU (by decide) ?_
  refine T_lread tC (by decide) ?_
  walk_at "zs"
  refine led_loop hg hu ha hv hb tU B.un tC B.ce (fun x hx => behind_led hg.pos ha.lt hb.lt hu.un hv.un hx) (fun _ _ => h) M hM _ _
end


/-! QX: the QUOTIENT of a turn; the law of turns led and behind (k46). -/
def under (c : Cn) (g : Rat) : PyData := if c = 0 then .tuple [nm 1] else .tuple [nm 1, nm (0 - c.conj / Cn.ofR g)]
section
variable {Φ : PyData → Prop} {n m k l : Nat} {x y z w u v a b c t U C : Cn} {p q g : Rat} {A : Addr} {P : Post} {L : PyData} {s : Sl}
theorem T_is_turn_k (hu : Ts n u) (h1 : u.nsq = 1) (hc : Ts k c) (hg : Rs m g) (h0 : 0 < g) (s1 : 4 * n ≤ 9000) (s2 : 4 * k ≤ 9000) (s3 : k + k + 1 + m ≤ 9000) (h : Φ (.bool (decide (c.nsq < g)))) : F_is_turn [.tuple [nm u, nm c], fr g] Φ := T_is_turn hu h1 hc hg h0 s1 s2 s3 h
theorem T_below_k (hx : Ts n x) (hg : Rs 7 g) (s1 : n + n + 1 + 7 ≤ 9000) (h : Φ (.bool (decide (x.nsq < g)))) : F__law_below_2 [tq x, fr g] Φ := by
  unfold F__law_below_2 mkF b__law_below_2
  refine ⟨rfl, ?_⟩
  walk_at "ys"
  refine T_lsize hx (by omega) ?_
  refine T_real ?_
  refine T_lless hx.nsq.tsR hg.tsR (by omega) ?_
  rw [ofR_sub]
  show Φ (.bool (decide (ta (Cn.ofR (x.nsq - g)) < 0)))
  have e : ta (Cn.ofR (x.nsq - g)) < 0 ↔ x.nsq < g := by
    rw [← qd_neg (tc_pos (Cn.ofR (x.nsq - g)))]
    have e1 := congrArg Cn.re (tq_val (Cn.ofR (x.nsq - g)))
    have e2 : (Cn.ofR (x.nsq - g)).re = x.nsq - g := rfl
    rw [e2] at e1
    dsimp only at e1
    rw [← e1]
    constructor
    · intro h; grind
    · intro h; grind
  rw [decide_eq_decide.mpr e]
  exact h
theorem T_lis_turn_k (hu : Ts n u) (h1 : u.nsq = 1) (hc : Ts m c) (hg : Rs 7 g) (s1 : n + n ≤ 9000) (s2 : m + m + 8 ≤ 9000) (h : Φ (.bool (decide (c.nsq < g)))) : F__law_is_turn [.tuple [nm u, nm c], fr g] Φ := by
  unfold F__law_is_turn mkF b__law_is_turn
  refine ⟨rfl, ?_⟩
  walk_at "ys"
  refine T_is_line2 ?_
  show F__law_read_2 [nm u] _
  refine T_lread hu s1 ?_
  refine T_lsize hu s1 ?_
  rw [h1]
  have e : PyData.tuple [.int 1, .int 0, .int 1] = tq (Cn.ofR 1) := by
    rw [tq_lit1]
    congr 1
  rw [e]
  show _ ∧ _ ∧ _
  refine ⟨rfl, rfl, ?_⟩
  rw [eqv_tq, decide_eq_true rfl]
  show F__law_read_2 [nm c] _
  refine T_lread hc (by omega) ?_
  exact T_below_k hc hg (by omega) h
theorem T_turn_rows (hg : Bo g) (hu : Un u) (hc : Dz g c) (h : Φ (.tuple [.list [tq (0 - u * c), tq u], .list [tq 1, tq (0 - c.conj / Cn.ofR g)]])) : F__law_turn_rows [tq u, tq c, fr g] Φ := by
  have e0 : PyData.tuple [.int 0, .int 0, .int 1] = tq 0 := by
    rw [tq_lit1]
    congr 1
  have e1 : PyData.tuple [.int 1, .int 0, .int 1] = tq 1 := by
    rw [tq_lit1]
    congr 1
  unfold F__law_turn_rows mkF b__law_turn_rows
  refine ⟨rfl, ?_⟩
  walk_at "zs"
  rw [e0, e1]
  refine T_lmul hu.ts hc.ts (by decide) ?_
  refine T_lless ts_zero (hu.ts.mul hc.ts) (by decide) ?_
  refine T_lmirror ?_
  refine T_real ?_
  refine T_lover hc.ts.conj hg.rs.tsR (gR_ne hg.pos) (by decide) ?_
  exact T_lless ts_zero (hc.ts.conj.div hg.rs.tsR (gR_ne hg.pos)) (by decide) h
theorem nought_dec : decide (ta x = 0 ∧ tb x = 0) = decide (x = 0) := decide_eq_decide.mpr tq_zero
theorem T_row_cut2 (hn : y ≠ 0 → Φ (.list [tq x, tq y])) (hz : y = 0 → x ≠ 0 → Φ (.list [tq x])) (hx : x ≠ 0) : F__law_row_cut [.list [tq x, tq y]] Φ := by
  unfold F__law_row_cut mkF b__law_row_cut
  refine ⟨rfl, ?_⟩
  show ∃ n, whW _ _ n _ _
  refine ⟨3, ?_⟩
  unfold whW
  show F__law_is_nought [tq y] _
  refine T_lnought ?_
  rw [nought_dec]
  by_cases h : y = 0
  · rw [decide_eq_true h]
    unfold whW
    show F__law_is_nought [tq x] _
    refine T_lnought ?_
    rw [nought_dec, decide_eq_false hx]
    exact hz h hx
  · rw [decide_eq_false h]
    exact hn h
theorem T_line2 (hx : Ts n x) (hy : Ts m y) (s1 : n ≤ 9000) (s2 : m ≤ 9000) (h : Φ (.tuple [nm x, nm y])) : F__law_line [.list [tq x, tq y]] Φ := by
  unfold F__law_line mkF b__law_line
  refine ⟨rfl, ?_⟩
  show _ ∧ _
  refine ⟨(show 2 ≤ sizeLine by rw [sizeLine_eq]; decide), ?_⟩
  show F__law_number_2 [tq x] _
  refine T_lnumber hx s1 ?_
  show F__law_number_2 [tq y] _
  refine T_lnumber hy s2 ?_
  exact h
theorem T_line1 (hx : Ts n x) (s1 : n ≤ 9000) (h : Φ (.tuple [nm x])) : F__law_line [.list [tq x]] Φ := by
  unfold F__law_line mkF b__law_line
  refine ⟨rfl, ?_⟩
  show _ ∧ _
  refine ⟨(show 1 ≤ sizeLine by rw [sizeLine_eq]; decide), ?_⟩
  show F__law_number_2 [tq x] _
  refine T_lnumber hx s1 ?_
  exact h
theorem one_ne : (1 : Cn) ≠ 0 := fun h => absurd (congrArg Cn.re h) (show ¬ (((1 : Nat) : Rat) = ((0 : Nat) : Rat)) by decide)
theorem div_one' : x / 1 = x := by grind
theorem T_quotient2 (hx : Ts 20 x) (hy : Ts 20 y) (hz : Ts 20 z) (h : Φ (.tuple [.tuple [nm x, nm y], .tuple [nm 1, nm z]])) : F__law_quotient [.list [tq x, tq y], .list [tq 1, tq z]] Φ := by
  unfold F__law_quotient mkF b__law_quotient
  refine ⟨rfl, ?_⟩
  show _ ∧ _
  refine ⟨(show 2 ≤ sizeLine by rw [sizeLine_eq]; decide), ?_⟩
  show F__law_over_2 [tq x, tq 1] _
  refine T_lover hx ts_one one_ne (by decide) ?_
  rw [div_one']
  show F__law_over_2 [tq y, tq 1] _
  refine T_lover hy ts_one one_ne (by decide) ?_
  rw [div_one']
  show F__law_line [.list [tq x, tq y]] _
  refine T_line2 hx hy (by decide) (by decide) ?_
  show _ ∧ _
  refine ⟨(show 2 ≤ sizeLine by rw [sizeLine_eq]; decide), ?_⟩
  show F__law_over_2 [tq 1, tq 1] _
  refine T_lover ts_one ts_one one_ne (by decide) ?_
  rw [div_one']
  show F__law_over_2 [tq z, tq 1] _
  refine T_lover hz ts_one one_ne (by decide) ?_
  rw [div_one']
  show F__law_line [.list [tq 1, tq z]] _
  exact T_line2 ts_one hz (by decide) (by decide) h
theorem T_quotient1 (hx : Ts 20 x) (hy : Ts 20 y) (h : Φ (.tuple [.tuple [nm x, nm y], .tuple [nm 1]])) : F__law_quotient [.list [tq x, tq y], .list [tq 1]] Φ := by
  unfold F__law_quotient mkF b__law_quotient
  refine ⟨rfl, ?_⟩
  show _ ∧ _
  refine ⟨(show 2 ≤ sizeLine by rw [sizeLine_eq]; decide), ?_⟩
  show F__law_over_2 [tq x, tq 1] _
  refine T_lover hx ts_one one_ne (by decide) ?_
  rw [div_one']
  show F__law_over_2 [tq y, tq 1] _
  refine T_lover hy ts_one one_ne (by decide) ?_
  rw [div_one']
  show F__law_line [.list [tq x, tq y]] _
  refine T_line2 hx hy (by decide) (by decide) ?_
  show _ ∧ _
  refine ⟨(show 1 ≤ sizeLine by rw [sizeLine_eq]; decide), ?_⟩
  show F__law_over_2 [tq 1, tq 1] _
  refine T_lover ts_one ts_one one_ne (by decide) ?_
  rw [div_one']
  show F__law_line [.list [tq 1]] _
  exact T_line1 ts_one (by decide) h
theorem T_trimmed2 (hy : Φ (if y = 0 then .tuple [nm 1] else .tuple [nm 1, nm y])) : F_trimmed [.tuple [nm 1, nm y]] Φ := by
  unfold F_trimmed mkF b_trimmed
  refine ⟨rfl, ?_⟩
  show ∃ n, whW _ _ n _ _
  refine ⟨3, ?_⟩
  unfold whW
  show _ ∧ _ ∧ _
  refine ⟨rfl, rfl, ?_⟩
  show ifB (PyData.eqv (nm y) (nm 0)) _ _
  rw [eqv_nm]
  by_cases h : y = 0
  · rw [decide_eq_true h]
    unfold whW
    show _ ∧ _ ∧ _
    refine ⟨rfl, rfl, ?_⟩
    show ifB (PyData.eqv (nm 1) (nm 0)) _ _
    rw [eqv_nm, decide_eq_false one_ne]
    rw [if_pos h] at hy
    exact hy
  · rw [decide_eq_false h]
    rw [if_neg h] at hy
    exact hy
theorem low_zero (h0 : 0 < g) : 0 - c.conj / Cn.ofR g = 0 ↔ c = 0 := by
  have h := gR_ne h0
  constructor
  · intro k
    have e : c.conj = 0 := by
      generalize c.conj = cb at *
      generalize Cn.ofR g = G at *
      have e1 : cb = cb / G * G := by grind
      have e2 : cb / G = 0 := by grind
      rw [e1, e2]
      grind
    rw [← conj_conj c, e, conj_zero]
  · intro k
    rw [k, conj_zero]
    generalize Cn.ofR g = G at *
    grind
theorem T_turn_quotient (hg : Bo g) (hu : Un u) (hc : Dz g c) (h : Φ (.tuple [.tuple [nm (0 - u * c), nm u], under c g])) : F_turn_quotient [.tuple [nm u, nm c], fr g] Φ := by
  unfold F_turn_quotient mkF b_turn_quotient
  refine ⟨rfl, ?_⟩
  walk_at "ys"
  refine T_need_bound hg.pos ?_
  refine T_need_turn hu.ts hu.un hc.ts hg.rs hc.lt (by decide) (by decide) (by decide) ?_
  refine T_mirror ?_
  refine T_part_of hc.ts.conj.cs hg.rs hg.pos (by decide) ?_
  refine T_times hu.ts.cs hc.ts.cs (by decide) ?_
  show F_less [nm 0, nm (u * c)] _
  refine T_less ts_zero.cs (hu.ts.mul hc.ts).cs (by decide) ?_
  show F_less [nm 0, nm (c.conj / Cn.ofR g)] _
  refine T_less ts_zero.cs (div_ts hc.ts.conj hg.rs hg.pos).cs (by decide) ?_
  show F_trimmed [.tuple [nm 1, nm (0 - c.conj / Cn.ofR g)]] _
  refine T_trimmed2 ?_
  unfold under at h
  by_cases e : c = 0
  · rw [if_pos ((low_zero hg.pos).mpr e)]
    rw [if_pos e] at h
    exact h
  · rw [if_neg fun k => e ((low_zero hg.pos).mp k)]
    rw [if_neg e] at h
    exact h
theorem T_due (hg : Bo g) (hu : Un u) (hc : Dz g c) (h : Φ (.tuple [.tuple [nm (0 - u * c), nm u], under c g])) :
    F__law_row_cut [.list [tq (0 - u * c), tq u]] (fun x => F__law_row_cut [.list [tq 1, tq (0 - c.conj / Cn.ofR g)]] fun y => F__law_quotient [x, y] Φ) := by
  have hu0 : u ≠ 0 := (nsq_ne u).mp (by rw [hu.un]; decide)
  have t1 : Ts 20 (0 - u * c) := (Ts.sub ts_zero (hu.ts.mul hc.ts)).mono (by decide)
  have t2 : Ts 20 (0 - c.conj / Cn.ofR g) := (Ts.sub ts_zero (div_ts hc.ts.conj hg.rs hg.pos)).mono (by decide)
  unfold under at h
  have fin : F__law_row_cut [.list [tq 1, tq (0 - c.conj / Cn.ofR g)]] fun y => F__law_quotient [.list [tq (0 - u * c), tq u], y] Φ := by
    refine T_row_cut2 (fun e => ?_) (fun e _ => ?_) one_ne
    · rw [if_neg fun k => e ((low_zero hg.pos).mpr k)] at h
      exact T_quotient2 t1 (hu.ts.mono (by decide)) t2 h
    · rw [if_pos ((low_zero hg.pos).mp e)] at h
      exact T_quotient1 t1 (hu.ts.mono (by decide)) h
  by_cases e0 : 0 - u * c = 0
  · have e1 : c = 0 := by
      have : u * c = 0 := by grind
      have e2 : c = u⁻¹ * (u * c) := by grind
      rw [e2, this]
      grind
    unfold F__law_row_cut mkF b__law_row_cut
    refine ⟨rfl, ?_⟩
    show ∃ n, whW _ _ n _ _
    refine ⟨3, ?_⟩
    unfold whW
    show F__law_is_nought [tq u] _
    refine T_lnought ?_
    rw [nought_dec, decide_eq_false hu0]
    exact fin
  · exact T_row_cut2 (fun _ => fin) (fun k => absurd k hu0) e0
theorem under_ok (hg : Bo g) (hc : Dz g c) : Shw (under c g) ∧ cnt (under c g) ≤ 100 ∧ PyData.depth (under c g) ≤ 8 := by
  have t2 : Ts 20 (0 - c.conj / Cn.ofR g) := (Ts.sub ts_zero (div_ts hc.ts.conj hg.rs hg.pos)).mono (by decide)
  unfold under
  have h1 : Shw (nm 1) := shw_nm (ts_one.cs.mono (by decide))
  by_cases e : c = 0
  · rw [if_pos e]
    exact ⟨shw_t (shw_cons h1 shw_nil), by simp only [nm, fr, cnt, cntAll]; decide, by simp only [nm, fr, PyData.depth, PyData.depthAll]; decide⟩
  · rw [if_neg e]
    exact ⟨shw_t (shw_cons h1 (shw_cons (shw_nm (t2.cs.mono (by decide))) shw_nil)), by simp only [nm, fr, cnt, cntAll]; decide, by simp only [nm, fr, PyData.depth, PyData.depthAll]; decide⟩
theorem quot_ok (hg : Bo g) (hu : Un u) (hc : Dz g c) : Shw (.tuple [.tuple [nm (0 - u * c), nm u], under c g]) ∧ cnt (.tuple [.tuple [nm (0 - u * c), nm u], under c g]) ≤ 200 ∧ PyData.depth (.tuple [.tuple [nm (0 - u * c), nm u], under c g]) ≤ 10 := by
  have t1 : Ts 20 (0 - u * c) := (Ts.sub ts_zero (hu.ts.mul hc.ts)).mono (by decide)
  obtain ⟨a1, a2, a3⟩ := under_ok hg hc
  have b1 := (turn_ok (t1.cs.mono (show _ ≤ 1900 by decide)) (hu.ts.cs.mono (show _ ≤ 1900 by decide)))
  have b2 : cnt (.tuple [nm (0 - u * c), nm u]) ≤ 50 := by simp only [nm, fr, cnt, cntAll]; decide
  have b3 : PyData.depth (.tuple [nm (0 - u * c), nm u]) ≤ 5 := by simp only [nm, fr, PyData.depth, PyData.depthAll]; decide
  refine ⟨shw_t (shw_cons b1.1 (shw_cons a1 shw_nil)), ?_, ?_⟩
  · generalize PyData.tuple [nm (0 - u * c), nm u] = d at *
    simp only [cnt, cntAll]
    omega
  · generalize PyData.tuple [nm (0 - u * c), nm u] = d at *
    simp only [PyData.depth, PyData.depthAll]
    omega
theorem okL2 {d e : PyData} (h1 : Shw d ∧ cnt d ≤ 200 ∧ PyData.depth d ≤ 10) (h2 : Shw e ∧ cnt e ≤ 200 ∧ PyData.depth e ≤ 10) : Shw (.list [d, e]) ∧ cnt (.list [d, e]) ≤ 1000 ∧ PyData.depth (.list [d, e]) ≤ 20 :=
  ⟨shw_l (shw_cons h1.1 (shw_cons h2.1 shw_nil)), by have a := h1.2.1; have b := h2.2.1; simp only [cnt, cntAll]; omega, by have a := h1.2.2; have b := h2.2.2; simp only [PyData.depth, PyData.depthAll]; omega⟩
theorem first_bound_k46 (h : ∀ g, Bo g → P.N [.v (.ref A), .d (fr g), .un, .un, .un, .un, .un, .un, .un, .un, .un]) :
    (vAsg 1 (vIf (vTest (vOp oEq (vCallQ 0 A F__law_draw (vCons (vC (.int 3)) vNil)) (vC (.int 0)))) (vTup (vCons (vC (.int 1)) (vCons (vC (.int 1)) vNil))) (vCallQ 0 A F__law_bound vNil))) (.v (.ref A) :: ends [] 10) P := by
  walk_at "ys"
  refine T_draw (by decide) (by decide) fun r _ _ => ?_
  refine ifB_in (fun _ => ?_) fun _ => ?_
  · exact h 1 (bo_of (by decide +kernel))
  · exact T_bound h
theorem notT (h : Φ (.bool false)) : oNotN (.bool true) (.bool true) Φ := h
theorem bo_one : Bo 1 := bo_of (by decide +kernel)
theorem pl_ts (h : Pl z) : Ts 8 z := by
  obtain ⟨a, b, d, rfl, a1, a2, b1, b2, d1, d2, hn⟩ := h.ex
  exact ⟨a, b, d, d1, (bd4 (by omega) (by omega)).mono (by decide), (bd4 (by omega) (by omega)).mono (by decide), (bd4 (by omega) (by omega)).mono (by decide), rfl⟩
theorem right_rest_k46 (hg : Bo g) (h : P.R (.bool true)) :
    (vSeqS (vPar 2 3 (vCons (vCallQ 0 A F__law_drawn_turn (vCons (vVar 1) vNil)) (vCons (vCallQ 0 A F__law_drawn_turn (vCons (vVar 1) vNil)) vNil))) (vSeqS (vAsg 4 (vCall F__law_turn (vCons (vOp oIx (vVar 2) (vC (.int 0))) (vCons (vOp oIx (vVar 2) (vC (.int 1))) vNil)))) (vSeqS (vIfS (vTest (vOp oNe (vB oRepr (vCons (vOf (vCons (vCallD F_is_turn [] (vCons (vVar 4) (vCons (vVar 1) vNil))) (vCons (vCallK F_is_turn kp_2_10 (vCons (vVar 1) (vCons (vVar 4) vNil))) vNil))) vNil)) (vB oRepr (vCons (vOf (vCons (vC (.bool true)) (vCons (vC (.bool true)) vNil))) vNil)))) (vRet (vC (.bool false))) vNext) (vSeqS (vIfS (vNot (vTru (vCall F__law_led_right (vCons (vVar 2) (vCons (vVar 3) (vCons (vVar 1) (vCons (vCallQ 0 A F__law_numbers (vCons (vOp oIx (vVar 2) (vC (.int 1))) (vCons (vVar 1) vNil))) vNil))))))) (vRet (vC (.bool false))) vNext) (vSeqS (vAsgG (vCall F__law_turn_rows (vCons (vOp oIx (vVar 2) (vC (.int 0))) (vCons (vOp oIx (vVar 2) (vC (.int 1))) (vCons (vVar 1) vNil)))) (vgT 2 (vgCons (vgN 5) (vgCons (vgN 6) vgNil)))) (vSeqS (vAsg 7 (vCall F__law_quotient (vCons (vCall F__law_row_cut (vCons (vVar 5) vNil)) (vCons (vCall F__law_row_cut (vCons (vVar 6) vNil)) vNil)))) (vSeqS (vIfS (vTest (vOp oNe (vB oRepr (vCons (vOf (vCons (vCallD F_turn_quotient [] (vCons (vVar 4) (vCons (vVar 1) vNil))) (vCons (vCallK F_turn_quotient kp_2_10 (vCons (vVar 1) (vCons (vVar 4) vNil))) vNil))) vNil)) (vB oRepr (vCons (vOf (vCons (vVar 7) (vCons (vVar 7) vNil))) vNil)))) (vRet (vC (.bool false))) vNext) (vSeqS (vAsg 8 (vCallQ 0 A F__law_drawn_turn (vCons (vTup (vCons (vC (.int 1)) (vCons (vC (.int 1)) vNil))) vNil))) (vSeqS (vPar 9 10 (vCons (vCall F__law_turn (vCons (vOp oIx (vVar 8) (vC (.int 0))) (vCons (vOp oIx (vVar 8) (vC (.int 1))) vNil))) (vCons (vCallQ 0 A F__law_place_2 vNil) vNil))) (vSeqS (vIfS (vOr (vTest (vOp oNotN (vCallD F_is_turn [.tuple [.int 1, .int 1]] (vCons (vVar 9) vNil)) (vC (.bool true)))) (vTest (vOp oNe (vB oRepr (vCons (vCallD F_led [.tuple [.int 1, .int 1]] (vCons (vVar 9) (vCons (vCall F__law_number_2 (vCons (vVar 10) vNil)) vNil))) vNil)) (vB oRepr (vCons (vCall F__law_maybe (vCons (vCall F__law_leads (vCons (vOp oIx (vVar 8) (vC (.int 0))) (vCons (vOp oIx (vVar 8) (vC (.int 1))) (vCons (vTup (vCons (vC (.int 1)) (vCons (vC (.int 1)) vNil))) (vCons (vVar 10) vNil))))) vNil)) vNil))))) (vRet (vC (.bool false))) vNext) (vSeqS (vIfS (vTest (vOp oNe (vB oRepr (vCons (vCallD F_is_turn [.tuple [.int 1, .int 1]] (vCons (vVar 4) vNil)) vNil)) (vB oRepr (vCons (vCall F__law_is_turn (vCons (vVar 4) (vCons (vTup (vCons (vC (.int 1)) (vCons (vC (.int 1)) vNil))) vNil))) vNil)))) (vRet (vC (.bool false))) vNext) (vRet (vOp oEq (vB oRepr (vCons (vOf (vCons (vCallD F_behind [.tuple [.int 1, .int 1]] (vCons (vVar 9) (vCons (vVar 9) vNil))) (vCons (vCallD F_turn_quotient [.tuple [.int 1, .int 1]] (vCons (vVar 9) vNil)) vNil))) vNil)) (vB oRepr (vCons (vOf (vCons (vCallD F_behind [] (vCons (vVar 9) (vCons (vVar 9) (vCons (vTup (vCons (vC (.int 1)) (vCons (vC (.int 1)) vNil))) vNil)))) (vCons (vCallD F_turn_quotient [] (vCons (vVar 9) (vCons (vTup (vCons (vC (.int 1)) (vCons (vC (.int 1)) vNil))) vNil))) vNil))) vNil))))))))))))))) [.v (.ref A), .d (fr g), .un, .un, .un, .un, .un, .un, .un, .un, .un] P := by
  have e1 : PyData.tuple [.int 1, .int 1] = fr 1 := rfl
  walk_at "zs"
  refine T_drawn hg fun u a hu ha => ?_
  refine T_drawn hg fun v b hv hb => ?_
  walk_at "zs"
  refine T_lturn hu.ts ha.ts (by decide) (by decide) ?_
  walk_at "zs"
  refine T_is_turn_k hu.ts hu.un ha.ts hg.rs hg.pos (by decide) (by decide) (by decide) ?_
  refine T_is_turn_k hu.ts hu.un ha.ts hg.rs hg.pos (by decide) (by decide) (by decide) ?_
  rw [decide_eq_true ha.lt]
  refine T_reprG (ok2 bool_ok bool_ok) fun s1 q1 => ?_
  refine T_reprG (d := .list [.bool true, .bool true]) (ok2 bool_ok bool_ok) fun s2 q2 => ?_
  refine ne_str q1 q2 ?_
  walk_at "zs"
  refine T_numbers hg ha fun M hM hT => ?_
  refine T_led_right hg hu ha hv hb hT ?_
  walk_at "zs"
  refine T_turn_rows hg hu ha ?_
  walk_at "zs"
  refine T_due hg hu ha ?_
  walk_at "zs"
  have okq := quot_ok hg hu ha
  refine T_turn_quotient hg hu ha ?_
  refine T_turn_quotient hg hu ha ?_
  refine T_reprG (okL2 okq okq) fun s3 q3 => ?_
  refine T_reprG (okL2 okq okq) fun s4 q4 => ?_
  refine ne_str q3 q4 ?_
  walk_at "zs"
  rw [e1]
  have g1 := bo_one
  refine T_drawn g1 fun r d hr hd => ?_
  walk_at "zs"
  refine T_lturn hr.ts hd.ts (by decide) (by decide) ?_
  refine T_place fun x hx => ?_
  have tx := pl_ts hx
  walk_at "zs"
  refine T_is_turn_k hr.ts hr.un hd.ts g1.rs g1.pos (by decide) (by decide) (by decide) ?_
  rw [decide_eq_true hd.lt]
  refine notT ?_
  walk_at "zs"
  refine T_lnumber tx (by decide) ?_
  refine T_led_all (tx.mono (by decide)) (hr.ts.mono (by decide)) hr.un (hd.ts.mono (by decide)) g1.rs g1.pos hd.lt ?_
  have okl := okm (ledN_ok (tx.mono (show 8 ≤ 400 by decide)) (hr.ts.mono (show 6 ≤ 150 by decide)) (hd.ts.mono (show 8 ≤ 150 by decide)) g1.rs g1.pos)
  refine T_reprG okl fun s5 q5 => ?_
  refine T_leads_all hr.ts hd.ts g1.rs g1.pos tx (by decide) ?_
  refine T_maybe_all tx hr.ts hd.ts g1.rs g1.pos (by decide) ?_
  refine T_reprG okl fun s6 q6 => ?_
  refine ne_str q5 q6 ?_
  walk_at "zs"
  refine T_is_turn_k hu.ts hu.un ha.ts g1.rs g1.pos (by decide) (by decide) (by decide) ?_
  refine T_reprG (okm bool_ok) fun s7 q7 => ?_
  refine T_lis_turn_k hu.ts hu.un ha.ts g1.rs (by decide) (by decide) ?_
  refine T_reprG (okm bool_ok) fun s8 q8 => ?_
  refine ne_str q7 q8 ?_
  walk_at "zs"
  have B := behind_ok g1.pos hd.lt hd.lt hr.un hr.un
  have t1 : Ts 17 (d * d.conj) := hd.ts.mul hd.ts.conj
  have t2 : Ts 24 (d * d.conj / Cn.ofR 1) := div_ts t1 g1.rs g1.pos
  have t3 : Ts 31 (r + d * d.conj / Cn.ofR 1) := hr.ts.add t2
  have t4 : Ts 13 (r * r.conj) := hr.ts.mul hr.ts.conj
  have t5 : Ts 45 (r * r.conj * (r + d * d.conj / Cn.ofR 1)) := t4.mul t3
  have t6 : Ts 15 (r * d) := hr.ts.mul hd.ts
  have t7 : Ts 24 (r * d + d) := t6.add hd.ts
  have tU : Ts 108 (r * r.conj * (r + d * d.conj / Cn.ofR 1) / (r + d * d.conj / Cn.ofR 1).conj) := t5.div t3.conj (conj_ne B.ne)
  have tC : Ts 87 ((r * d + d) / (r + d * d.conj / Cn.ofR 1)) := t7.div t3 B.ne
  have okb := turn_ok (tU.cs.mono (show _ ≤ 1900 by decide)) (tC.cs.mono (show _ ≤ 1900 by decide))
  have okb2 := And.intro okb.1 (And.intro (Nat.le_trans okb.2.1 (show 100 ≤ 200 by decide)) okb.2.2)
  have okr := quot_ok g1 hr hd
  refine T_behind hr hd hr hd g1 B.ne ?_
  refine T_turn_quotient g1 hr hd ?_
  refine T_reprG (okL2 okb2 okr) fun s9 q9 => ?_
  refine T_behind hr hd hr hd g1 B.ne ?_
  refine T_turn_quotient g1 hr hd ?_
  refine T_reprG (okL2 okb2 okr) fun s10 q10 => ?_
  exact eq_str q9 q10 h
theorem T_right_k46 (h : Φ (.bool true)) : F__law_right_47 A [] Φ := by
  unfold F__law_right_47 mkQ b__law_right_47
  refine ⟨rfl, ?_⟩
  show vSeqS _ _ _ _
  refine first_bound_k46 fun g hg => ?_
  exact right_rest_k46 hg h
theorem law_loop_k46 {P : Post} {ns : List Int} (hP : ∀ e, P.N [.d (.list (ns.map .int)), e]) : ∀ (xs : List PyData), (∀ d ∈ xs, ∃ t : Int, d = .int t ∧ 0 ≤ t) → ∀ e : Sl,
    forW (vgN 1) (vIfS (vNot (vTru (vTurnC F__law_right_47 (vCons (vVar 0) (vCons (vVar 1) vNil))))) (vRet (vC (.bool false))) vNext) xs [.d (.list (ns.map .int)), e] P
  | [], _, e => hP e
  | x :: xs, h, e => by
    obtain ⟨t, rfl, ht⟩ := h x (List.mem_cons_self ..)
    unfold forW
    show _ ∧ _ ∧ _
    refine ⟨⟨ns, rfl⟩, ht, fun a => ?_⟩
    refine T_right_k46 ?_
    exact law_loop_k46 hP xs (fun d hd => h d (List.mem_cons_of_mem _ hd)) _
theorem law_true_k46 (ns : List Int) (hn : ns.length ≤ 63) : b_law_47 (ends [.list (ns.map .int)] 1) ⟨fun _ => False, fun d => d = .bool true, Nev, Nev⟩ := by
  unfold b_law_47
  generalize hl : ((ns.map PyData.int).length : Int) = l
  have hl2 : l ≤ 63 := by rw [← hl, List.length_map]; omega
  have hl0 : 0 ≤ l := by omega
  have key : ∃ n : Int, (if (if (4 : Int) < l then (4 : Int) else l) > 3 then (if (4 : Int) < l then (4 : Int) else l) else 3) = n ∧ -(2 ^ 62) ≤ n ∧ n < 2 ^ 62 := ⟨_, rfl, by split <;> split <;> omega, by split <;> split <;> omega⟩
  obtain ⟨n, e, n1, n2⟩ := key
  show (_ ∧ _) ∧ forW _ _ (rgD 0 _) _ _
  rw [hl, e]
  refine ⟨⟨n1, n2⟩, law_loop_k46 (fun e => rfl) _ ?_ _⟩
  intro d hd
  unfold rgD at hd
  obtain ⟨i, _, rfl⟩ := List.mem_map.mp hd
  exact ⟨_, rfl, by omega⟩
end


end Rim

namespace Rim
open PySem PySem.Spec PyProof.Rows L2
structure Txt (K : PySem.W.Frag) (mg : Str → Option Value) : Prop where
  g_reduced : mg "reduced" = some (.ref (He.ga K "reduced"))
  f_reduced : ∃ fd, FunD K "reduced" "reduced" (defArgs s_reduced) (defBody s_reduced) (defScope s_reduced) [] [] (He.ga K "reduced") fd
  g_fraction_plus : mg "fraction_plus" = some (.ref (He.ga K "fraction_plus"))
  f_fraction_plus : ∃ fd, FunD K "fraction_plus" "fraction_plus" (defArgs s_fraction_plus) (defBody s_fraction_plus) (defScope s_fraction_plus) [] [] (He.ga K "fraction_plus") fd
  g_fraction_less : mg "fraction_less" = some (.ref (He.ga K "fraction_less"))
  f_fraction_less : ∃ fd, FunD K "fraction_less" "fraction_less" (defArgs s_fraction_less) (defBody s_fraction_less) (defScope s_fraction_less) [] [] (He.ga K "fraction_less") fd
  g_fraction_times : mg "fraction_times" = some (.ref (He.ga K "fraction_times"))
  f_fraction_times : ∃ fd, FunD K "fraction_times" "fraction_times" (defArgs s_fraction_times) (defBody s_fraction_times) (defScope s_fraction_times) [] [] (He.ga K "fraction_times") fd
  g_order : mg "order" = some (.ref (He.ga K "order"))
  f_order : ∃ fd, FunD K "order" "order" (defArgs s_order) (defBody s_order) (defScope s_order) [] [] (He.ga K "order") fd
  g_number_from : mg "number_from" = some (.ref (He.ga K "number_from"))
  f_number_from : ∃ fd, FunD K "number_from" "number_from" (defArgs s_number_from) (defBody s_number_from) (defScope s_number_from) [] [] (He.ga K "number_from") fd
  g_plus : mg "plus" = some (.ref (He.ga K "plus"))
  f_plus : ∃ fd, FunD K "plus" "plus" (defArgs s_plus) (defBody s_plus) (defScope s_plus) [] [] (He.ga K "plus") fd
  g_less : mg "less" = some (.ref (He.ga K "less"))
  f_less : ∃ fd, FunD K "less" "less" (defArgs s_less) (defBody s_less) (defScope s_less) [] [] (He.ga K "less") fd
  g_times : mg "times" = some (.ref (He.ga K "times"))
  f_times : ∃ fd, FunD K "times" "times" (defArgs s_times) (defBody s_times) (defScope s_times) [] [] (He.ga K "times") fd
  g_mirror : mg "mirror" = some (.ref (He.ga K "mirror"))
  f_mirror : ∃ fd, FunD K "mirror" "mirror" (defArgs s_mirror) (defBody s_mirror) (defScope s_mirror) [] [] (He.ga K "mirror") fd
  g_size_of : mg "size_of" = some (.ref (He.ga K "size_of"))
  f_size_of : ∃ fd, FunD K "size_of" "size_of" (defArgs s_size_of) (defBody s_size_of) (defScope s_size_of) [] [] (He.ga K "size_of") fd
  g_scaled : mg "scaled" = some (.ref (He.ga K "scaled"))
  f_scaled : ∃ fd, FunD K "scaled" "scaled" (defArgs s_scaled) (defBody s_scaled) (defScope s_scaled) [] [] (He.ga K "scaled") fd
  g_part_of : mg "part_of" = some (.ref (He.ga K "part_of"))
  f_part_of : ∃ fd, FunD K "part_of" "part_of" (defArgs s_part_of) (defBody s_part_of) (defScope s_part_of) [] [] (He.ga K "part_of") fd
  g_over : mg "over" = some (.ref (He.ga K "over"))
  f_over : ∃ fd, FunD K "over" "over" (defArgs s_over) (defBody s_over) (defScope s_over) [] [] (He.ga K "over") fd
  g_trimmed : mg "trimmed" = some (.ref (He.ga K "trimmed"))
  f_trimmed : ∃ fd, FunD K "trimmed" "trimmed" (defArgs s_trimmed) (defBody s_trimmed) (defScope s_trimmed) [] [] (He.ga K "trimmed") fd
  g_series_over : mg "series_over" = some (.ref (He.ga K "series_over"))
  f_series_over : ∃ fd, FunD K "series_over" "series_over" (defArgs s_series_over) (defBody s_series_over) (defScope s_series_over) [] [] (He.ga K "series_over") fd
  g_series_led : mg "series_led" = some (.ref (He.ga K "series_led"))
  f_series_led : ∃ fd, FunD K "series_led" "series_led" (defArgs s_series_led) (defBody s_series_led) (defScope s_series_led) [] [] (He.ga K "series_led") fd
  g_is_whole : mg "is_whole" = some (.ref (He.ga K "is_whole"))
  f_is_whole : ∃ fd, FunD K "is_whole" "is_whole" (defArgs s_is_whole) (defBody s_is_whole) (defScope s_is_whole) [] [] (He.ga K "is_whole") fd
  g_is_fraction : mg "is_fraction" = some (.ref (He.ga K "is_fraction"))
  f_is_fraction : ∃ fd, FunD K "is_fraction" "is_fraction" (defArgs s_is_fraction) (defBody s_is_fraction) (defScope s_is_fraction) [] [] (He.ga K "is_fraction") fd
  g_is_number : mg "is_number" = some (.ref (He.ga K "is_number"))
  f_is_number : ∃ fd, FunD K "is_number" "is_number" (defArgs s_is_number) (defBody s_is_number) (defScope s_is_number) [] [] (He.ga K "is_number") fd
  g_is_bound : mg "is_bound" = some (.ref (He.ga K "is_bound"))
  f_is_bound : ∃ fd, FunD K "is_bound" "is_bound" (defArgs s_is_bound) (defBody s_is_bound) (defScope s_is_bound) [] [] (He.ga K "is_bound") fd
  g_need_bound : mg "need_bound" = some (.ref (He.ga K "need_bound"))
  f_need_bound : ∃ fd, FunD K "need_bound" "need_bound" (defArgs s_need_bound) (defBody s_need_bound) (defScope s_need_bound) [] [] (He.ga K "need_bound") fd
  g_need_number : mg "need_number" = some (.ref (He.ga K "need_number"))
  f_need_number : ∃ fd, FunD K "need_number" "need_number" (defArgs s_need_number) (defBody s_need_number) (defScope s_need_number) [] [] (He.ga K "need_number") fd
  g_is_any_turn : mg "is_any_turn" = some (.ref (He.ga K "is_any_turn"))
  f_is_any_turn : ∃ fd, FunD K "is_any_turn" "is_any_turn" (defArgs s_is_any_turn) (defBody s_is_any_turn) (defScope s_is_any_turn) [] [] (He.ga K "is_any_turn") fd
  g_is_turn_for : mg "is_turn_for" = some (.ref (He.ga K "is_turn_for"))
  f_is_turn_for : ∃ fd, FunD K "is_turn_for" "is_turn_for" (defArgs s_is_turn_for) (defBody s_is_turn_for) (defScope s_is_turn_for) [] [] (He.ga K "is_turn_for") fd
  g_need_turn : mg "need_turn" = some (.ref (He.ga K "need_turn"))
  f_need_turn : ∃ fd, FunD K "need_turn" "need_turn" (defArgs s_need_turn) (defBody s_need_turn) (defScope s_need_turn) [] [] (He.ga K "need_turn") fd
  g_led_to : mg "led_to" = some (.ref (He.ga K "led_to"))
  f_led_to : ∃ fd, FunD K "led_to" "led_to" (defArgs s_led_to) (defBody s_led_to) (defScope s_led_to) [] [] (He.ga K "led_to") fd
  g_back_of : mg "back_of" = some (.ref (He.ga K "back_of"))
  f_back_of : ∃ fd, FunD K "back_of" "back_of" (defArgs s_back_of) (defBody s_back_of) (defScope s_back_of) [] [] (He.ga K "back_of") fd
  g_one_turn : mg "one_turn" = some (.ref (He.ga K "one_turn"))
  f_one_turn : ∃ fd, FunD K "one_turn" "one_turn" (defArgs s_one_turn) (defBody s_one_turn) (defScope s_one_turn) [] [] (He.ga K "one_turn") fd
  g_is_turn : mg "is_turn" = some (.ref (He.ga K "is_turn"))
  f_is_turn : ∃ fd, FunD K "is_turn" "is_turn" (defArgs s_is_turn) (defBody s_is_turn) (defScope s_is_turn) [.ref (He.dflAt ("is_turn", none) 0 K)] [] (He.ga K "is_turn") fd
  g_led : mg "led" = some (.ref (He.ga K "led"))
  f_led : ∃ fd, FunD K "led" "led" (defArgs s_led) (defBody s_led) (defScope s_led) [.ref (He.dflAt ("led", none) 0 K)] [] (He.ga K "led") fd
  g_back : mg "back" = some (.ref (He.ga K "back"))
  f_back : ∃ fd, FunD K "back" "back" (defArgs s_back) (defBody s_back) (defScope s_back) [] [] (He.ga K "back") fd
  g_behind : mg "behind" = some (.ref (He.ga K "behind"))
  f_behind : ∃ fd, FunD K "behind" "behind" (defArgs s_behind) (defBody s_behind) (defScope s_behind) [.ref (He.dflAt ("behind", none) 0 K)] [] (He.ga K "behind") fd
  g_turn_quotient : mg "turn_quotient" = some (.ref (He.ga K "turn_quotient"))
  f_turn_quotient : ∃ fd, FunD K "turn_quotient" "turn_quotient" (defArgs s_turn_quotient) (defBody s_turn_quotient) (defScope s_turn_quotient) [.ref (He.dflAt ("turn_quotient", none) 0 K)] [] (He.ga K "turn_quotient") fd
  g__law_pot : mg "_law_pot" = some (.ref (He.ga K "_law_pot"))
  f__law_pot : ∃ fd, FunD K "_law_pot" "_law_pot" (defArgs s__law_pot) (defBody s__law_pot) (defScope s__law_pot) [] [] (He.ga K "_law_pot") fd
  g__law_draw : mg "_law_draw" = some (.ref (He.ga K "_law_draw"))
  f__law_draw : ∃ fd, FunD K "_law_draw" "_law_draw" (defArgs s__law_draw) (defBody s__law_draw) (defScope s__law_draw) [] [] (He.ga K "_law_draw") fd
  g__law_pick : mg "_law_pick" = some (.ref (He.ga K "_law_pick"))
  f__law_pick : ∃ fd, FunD K "_law_pick" "_law_pick" (defArgs s__law_pick) (defBody s__law_pick) (defScope s__law_pick) [] [] (He.ga K "_law_pick") fd
  g__law_common : mg "_law_common" = some (.ref (He.ga K "_law_common"))
  f__law_common : ∃ fd, FunD K "_law_common" "_law_common" (defArgs s__law_common) (defBody s__law_common) (defScope s__law_common) [] [] (He.ga K "_law_common") fd
  g__law_cut : mg "_law_cut" = some (.ref (He.ga K "_law_cut"))
  f__law_cut : ∃ fd, FunD K "_law_cut" "_law_cut" (defArgs s__law_cut) (defBody s__law_cut) (defScope s__law_cut) [] [] (He.ga K "_law_cut") fd
  g__law_less : mg "_law_less" = some (.ref (He.ga K "_law_less"))
  f__law_less : ∃ fd, FunD K "_law_less" "_law_less" (defArgs s__law_less) (defBody s__law_less) (defScope s__law_less) [] [] (He.ga K "_law_less") fd
  g__law_times : mg "_law_times" = some (.ref (He.ga K "_law_times"))
  f__law_times : ∃ fd, FunD K "_law_times" "_law_times" (defArgs s__law_times) (defBody s__law_times) (defScope s__law_times) [] [] (He.ga K "_law_times") fd
  g__law_mirror : mg "_law_mirror" = some (.ref (He.ga K "_law_mirror"))
  f__law_mirror : ∃ fd, FunD K "_law_mirror" "_law_mirror" (defArgs s__law_mirror) (defBody s__law_mirror) (defScope s__law_mirror) [] [] (He.ga K "_law_mirror") fd
  g__law_over : mg "_law_over" = some (.ref (He.ga K "_law_over"))
  f__law_over : ∃ fd, FunD K "_law_over" "_law_over" (defArgs s__law_over) (defBody s__law_over) (defScope s__law_over) [] [] (He.ga K "_law_over") fd
  g__law_size : mg "_law_size" = some (.ref (He.ga K "_law_size"))
  f__law_size : ∃ fd, FunD K "_law_size" "_law_size" (defArgs s__law_size) (defBody s__law_size) (defScope s__law_size) [] [] (He.ga K "_law_size") fd
  g__law_is_nought : mg "_law_is_nought" = some (.ref (He.ga K "_law_is_nought"))
  f__law_is_nought : ∃ fd, FunD K "_law_is_nought" "_law_is_nought" (defArgs s__law_is_nought) (defBody s__law_is_nought) (defScope s__law_is_nought) [] [] (He.ga K "_law_is_nought") fd
  g__law_fraction : mg "_law_fraction" = some (.ref (He.ga K "_law_fraction"))
  f__law_fraction : ∃ fd, FunD K "_law_fraction" "_law_fraction" (defArgs s__law_fraction) (defBody s__law_fraction) (defScope s__law_fraction) [] [] (He.ga K "_law_fraction") fd
  g__law_number : mg "_law_number" = some (.ref (He.ga K "_law_number"))
  f__law_number : ∃ fd, FunD K "_law_number" "_law_number" (defArgs s__law_number) (defBody s__law_number) (defScope s__law_number) [] [] (He.ga K "_law_number") fd
  g__law_real : mg "_law_real" = some (.ref (He.ga K "_law_real"))
  f__law_real : ∃ fd, FunD K "_law_real" "_law_real" (defArgs s__law_real) (defBody s__law_real) (defScope s__law_real) [] [] (He.ga K "_law_real") fd
  g__law_line : mg "_law_line" = some (.ref (He.ga K "_law_line"))
  f__law_line : ∃ fd, FunD K "_law_line" "_law_line" (defArgs s__law_line) (defBody s__law_line) (defScope s__law_line) [] [] (He.ga K "_law_line") fd
  g__law_is_fraction : mg "_law_is_fraction" = some (.ref (He.ga K "_law_is_fraction"))
  f__law_is_fraction : ∃ fd, FunD K "_law_is_fraction" "_law_is_fraction" (defArgs s__law_is_fraction) (defBody s__law_is_fraction) (defScope s__law_is_fraction) [] [] (He.ga K "_law_is_fraction") fd
  g__law_is_number : mg "_law_is_number" = some (.ref (He.ga K "_law_is_number"))
  f__law_is_number : ∃ fd, FunD K "_law_is_number" "_law_is_number" (defArgs s__law_is_number) (defBody s__law_is_number) (defScope s__law_is_number) [] [] (He.ga K "_law_is_number") fd
  g__law_read : mg "_law_read" = some (.ref (He.ga K "_law_read"))
  f__law_read : ∃ fd, FunD K "_law_read" "_law_read" (defArgs s__law_read) (defBody s__law_read) (defScope s__law_read) [] [] (He.ga K "_law_read") fd
  g__law_is_line : mg "_law_is_line" = some (.ref (He.ga K "_law_is_line"))
  f__law_is_line : ∃ fd, FunD K "_law_is_line" "_law_is_line" (defArgs s__law_is_line) (defBody s__law_is_line) (defScope s__law_is_line) [] [] (He.ga K "_law_is_line") fd
  g__law_gauss : mg "_law_gauss" = some (.ref (He.ga K "_law_gauss"))
  f__law_gauss : ∃ fd, FunD K "_law_gauss" "_law_gauss" (defArgs s__law_gauss) (defBody s__law_gauss) (defScope s__law_gauss) [] [] (He.ga K "_law_gauss") fd
  g__law_root : mg "_law_root" = some (.ref (He.ga K "_law_root"))
  f__law_root : ∃ fd, FunD K "_law_root" "_law_root" (defArgs s__law_root) (defBody s__law_root) (defScope s__law_root) [] [] (He.ga K "_law_root") fd
  g__law_place : mg "_law_place" = some (.ref (He.ga K "_law_place"))
  f__law_place : ∃ fd, FunD K "_law_place" "_law_place" (defArgs s__law_place) (defBody s__law_place) (defScope s__law_place) [] [] (He.ga K "_law_place") fd
  g__law_bound : mg "_law_bound" = some (.ref (He.ga K "_law_bound"))
  f__law_bound : ∃ fd, FunD K "_law_bound" "_law_bound" (defArgs s__law_bound) (defBody s__law_bound) (defScope s__law_bound) [] [] (He.ga K "_law_bound") fd
  g__law_within : mg "_law_within" = some (.ref (He.ga K "_law_within"))
  f__law_within : ∃ fd, FunD K "_law_within" "_law_within" (defArgs s__law_within) (defBody s__law_within) (defScope s__law_within) [] [] (He.ga K "_law_within") fd
  g__law_unit : mg "_law_unit" = some (.ref (He.ga K "_law_unit"))
  f__law_unit : ∃ fd, FunD K "_law_unit" "_law_unit" (defArgs s__law_unit) (defBody s__law_unit) (defScope s__law_unit) [] [] (He.ga K "_law_unit") fd
  g__law_row_cut : mg "_law_row_cut" = some (.ref (He.ga K "_law_row_cut"))
  f__law_row_cut : ∃ fd, FunD K "_law_row_cut" "_law_row_cut" (defArgs s__law_row_cut) (defBody s__law_row_cut) (defScope s__law_row_cut) [] [] (He.ga K "_law_row_cut") fd
  g__law_quotient : mg "_law_quotient" = some (.ref (He.ga K "_law_quotient"))
  f__law_quotient : ∃ fd, FunD K "_law_quotient" "_law_quotient" (defArgs s__law_quotient) (defBody s__law_quotient) (defScope s__law_quotient) [] [] (He.ga K "_law_quotient") fd
  g__law_turn_rows : mg "_law_turn_rows" = some (.ref (He.ga K "_law_turn_rows"))
  f__law_turn_rows : ∃ fd, FunD K "_law_turn_rows" "_law_turn_rows" (defArgs s__law_turn_rows) (defBody s__law_turn_rows) (defScope s__law_turn_rows) [] [] (He.ga K "_law_turn_rows") fd
  g__law_leads : mg "_law_leads" = some (.ref (He.ga K "_law_leads"))
  f__law_leads : ∃ fd, FunD K "_law_leads" "_law_leads" (defArgs s__law_leads) (defBody s__law_leads) (defScope s__law_leads) [] [] (He.ga K "_law_leads") fd
  g__law_drawn_turn : mg "_law_drawn_turn" = some (.ref (He.ga K "_law_drawn_turn"))
  f__law_drawn_turn : ∃ fd, FunD K "_law_drawn_turn" "_law_drawn_turn" (defArgs s__law_drawn_turn) (defBody s__law_drawn_turn) (defScope s__law_drawn_turn) [] [] (He.ga K "_law_drawn_turn") fd
  g__law_turn : mg "_law_turn" = some (.ref (He.ga K "_law_turn"))
  f__law_turn : ∃ fd, FunD K "_law_turn" "_law_turn" (defArgs s__law_turn) (defBody s__law_turn) (defScope s__law_turn) [] [] (He.ga K "_law_turn") fd
  g__law_below : mg "_law_below" = some (.ref (He.ga K "_law_below"))
  f__law_below : ∃ fd, FunD K "_law_below" "_law_below" (defArgs s__law_below) (defBody s__law_below) (defScope s__law_below) [] [] (He.ga K "_law_below") fd
  g__law_is_turn : mg "_law_is_turn" = some (.ref (He.ga K "_law_is_turn"))
  f__law_is_turn : ∃ fd, FunD K "_law_is_turn" "_law_is_turn" (defArgs s__law_is_turn) (defBody s__law_is_turn) (defScope s__law_is_turn) [] [] (He.ga K "_law_is_turn") fd
  g__law_maybe : mg "_law_maybe" = some (.ref (He.ga K "_law_maybe"))
  f__law_maybe : ∃ fd, FunD K "_law_maybe" "_law_maybe" (defArgs s__law_maybe) (defBody s__law_maybe) (defScope s__law_maybe) [] [] (He.ga K "_law_maybe") fd
  g__law_numbers : mg "_law_numbers" = some (.ref (He.ga K "_law_numbers"))
  f__law_numbers : ∃ fd, FunD K "_law_numbers" "_law_numbers" (defArgs s__law_numbers) (defBody s__law_numbers) (defScope s__law_numbers) [] [] (He.ga K "_law_numbers") fd
  g__law_led_right : mg "_law_led_right" = some (.ref (He.ga K "_law_led_right"))
  f__law_led_right : ∃ fd, FunD K "_law_led_right" "_law_led_right" (defArgs s__law_led_right) (defBody s__law_led_right) (defScope s__law_led_right) [] [] (He.ga K "_law_led_right") fd
  g__law_right : mg "_law_right" = some (.ref (He.ga K "_law_right"))
  f__law_right : ∃ fd, FunD K "_law_right" "_law_right" (defArgs s__law_right) (defBody s__law_right) (defScope s__law_right) [] [] (He.ga K "_law_right") fd
  g_law : mg "law" = some (.ref (He.ga K "law"))
  f_law : ∃ fd, FunD K "law" "law" (defArgs s_law) (defBody s_law) (defScope s_law) [] [] (He.ga K "law") fd
  b_abs : mg "abs" = none
  b_bool : mg "bool" = none
  b_divmod : mg "divmod" = none
  b_enumerate : mg "enumerate" = none
  b_int : mg "int" = none
  b_isinstance : mg "isinstance" = none
  b_len : mg "len" = none
  b_max : mg "max" = none
  b_min : mg "min" = none
  b_range : mg "range" = none
  b_repr : mg "repr" = none
  b_tuple : mg "tuple" = none
  c_ONE : Rim.Con K mg "ONE" c_ONE
  c_NOUGHT : Rim.Con K mg "NOUGHT" c_NOUGHT
  c_UNIT : Rim.Con K mg "UNIT" c_UNIT
  i_gcd : mg "gcd" = some (.builtin "math.gcd")
  v_is_turn_0 : ∀ G, Dp K G (.ref (He.dflAt ("is_turn", none) 0 K)) (.tuple [.int 1, .int 1])
  v_led_0 : ∀ G, Dp K G (.ref (He.dflAt ("led", none) 0 K)) (.tuple [.int 1, .int 1])
  v_behind_0 : ∀ G, Dp K G (.ref (He.dflAt ("behind", none) 0 K)) (.tuple [.int 1, .int 1])
  v_turn_quotient_0 : ∀ G, Dp K G (.ref (He.dflAt ("turn_quotient", none) 0 K)) (.tuple [.int 1, .int 1])
theorem txt_of {w : World} {K : PySem.W.Frag} {h : Heap} {mg : Str → Option Value} (X : K.In h) (G : h.Ns mainGlobals mg) (c : He.SaysX fas fns [] [] (exB2 cons imps dfts) w h K) : Txt K mg where
  g_reduced := He.glo_ok X G (c.t.d.fact 0 (f := .glo "reduced") rfl)
  f_reduced := c.t.d.def_ 0 (d := d_reduced) rfl
  g_fraction_plus := He.glo_ok X G (c.t.d.fact 1 (f := .glo "fraction_plus") rfl)
  f_fraction_plus := c.t.d.def_ 1 (d := d_fraction_plus) rfl
  g_fraction_less := He.glo_ok X G (c.t.d.fact 2 (f := .glo "fraction_less") rfl)
  f_fraction_less := c.t.d.def_ 2 (d := d_fraction_less) rfl
  g_fraction_times := He.glo_ok X G (c.t.d.fact 3 (f := .glo "fraction_times") rfl)
  f_fraction_times := c.t.d.def_ 3 (d := d_fraction_times) rfl
  g_order := He.glo_ok X G (c.t.d.fact 4 (f := .glo "order") rfl)
  f_order := c.t.d.def_ 4 (d := d_order) rfl
  g_number_from := He.glo_ok X G (c.t.d.fact 5 (f := .glo "number_from") rfl)
  f_number_from := c.t.d.def_ 5 (d := d_number_from) rfl
  g_plus := He.glo_ok X G (c.t.d.fact 6 (f := .glo "plus") rfl)
  f_plus := c.t.d.def_ 6 (d := d_plus) rfl
  g_less := He.glo_ok X G (c.t.d.fact 7 (f := .glo "less") rfl)
  f_less := c.t.d.def_ 7 (d := d_less) rfl
  g_times := He.glo_ok X G (c.t.d.fact 8 (f := .glo "times") rfl)
  f_times := c.t.d.def_ 8 (d := d_times) rfl
  g_mirror := He.glo_ok X G (c.t.d.fact 9 (f := .glo "mirror") rfl)
  f_mirror := c.t.d.def_ 9 (d := d_mirror) rfl
  g_size_of := He.glo_ok X G (c.t.d.fact 10 (f := .glo "size_of") rfl)
  f_size_of := c.t.d.def_ 10 (d := d_size_of) rfl
  g_scaled := He.glo_ok X G (c.t.d.fact 11 (f := .glo "scaled") rfl)
  f_scaled := c.t.d.def_ 11 (d := d_scaled) rfl
  g_part_of := He.glo_ok X G (c.t.d.fact 12 (f := .glo "part_of") rfl)
  f_part_of := c.t.d.def_ 12 (d := d_part_of) rfl
  g_over := He.glo_ok X G (c.t.d.fact 13 (f := .glo "over") rfl)
  f_over := c.t.d.def_ 13 (d := d_over) rfl
  g_trimmed := He.glo_ok X G (c.t.d.fact 14 (f := .glo "trimmed") rfl)
  f_trimmed := c.t.d.def_ 14 (d := d_trimmed) rfl
  g_series_over := He.glo_ok X G (c.t.d.fact 15 (f := .glo "series_over") rfl)
  f_series_over := c.t.d.def_ 15 (d := d_series_over) rfl
  g_series_led := He.glo_ok X G (c.t.d.fact 16 (f := .glo "series_led") rfl)
  f_series_led := c.t.d.def_ 16 (d := d_series_led) rfl
  g_is_whole := He.glo_ok X G (c.t.d.fact 17 (f := .glo "is_whole") rfl)
  f_is_whole := c.t.d.def_ 17 (d := d_is_whole) rfl
  g_is_fraction := He.glo_ok X G (c.t.d.fact 18 (f := .glo "is_fraction") rfl)
  f_is_fraction := c.t.d.def_ 18 (d := d_is_fraction) rfl
  g_is_number := He.glo_ok X G (c.t.d.fact 19 (f := .glo "is_number") rfl)
  f_is_number := c.t.d.def_ 19 (d := d_is_number) rfl
  g_is_bound := He.glo_ok X G (c.t.d.fact 20 (f := .glo "is_bound") rfl)
  f_is_bound := c.t.d.def_ 20 (d := d_is_bound) rfl
  g_need_bound := He.glo_ok X G (c.t.d.fact 21 (f := .glo "need_bound") rfl)
  f_need_bound := c.t.d.def_ 21 (d := d_need_bound) rfl
  g_need_number := He.glo_ok X G (c.t.d.fact 22 (f := .glo "need_number") rfl)
  f_need_number := c.t.d.def_ 22 (d := d_need_number) rfl
  g_is_any_turn := He.glo_ok X G (c.t.d.fact 23 (f := .glo "is_any_turn") rfl)
  f_is_any_turn := c.t.d.def_ 23 (d := d_is_any_turn) rfl
  g_is_turn_for := He.glo_ok X G (c.t.d.fact 24 (f := .glo "is_turn_for") rfl)
  f_is_turn_for := c.t.d.def_ 24 (d := d_is_turn_for) rfl
  g_need_turn := He.glo_ok X G (c.t.d.fact 25 (f := .glo "need_turn") rfl)
  f_need_turn := c.t.d.def_ 25 (d := d_need_turn) rfl
  g_led_to := He.glo_ok X G (c.t.d.fact 26 (f := .glo "led_to") rfl)
  f_led_to := c.t.d.def_ 26 (d := d_led_to) rfl
  g_back_of := He.glo_ok X G (c.t.d.fact 27 (f := .glo "back_of") rfl)
  f_back_of := c.t.d.def_ 27 (d := d_back_of) rfl
  g_one_turn := He.glo_ok X G (c.t.d.fact 28 (f := .glo "one_turn") rfl)
  f_one_turn := c.t.d.def_ 28 (d := d_one_turn) rfl
  g_is_turn := He.glo_ok X G (c.t.d.fact 29 (f := .glo "is_turn") rfl)
  f_is_turn := c.t.d.def_ 29 (d := d_is_turn) rfl
  g_led := He.glo_ok X G (c.t.d.fact 30 (f := .glo "led") rfl)
  f_led := c.t.d.def_ 30 (d := d_led) rfl
  g_back := He.glo_ok X G (c.t.d.fact 31 (f := .glo "back") rfl)
  f_back := c.t.d.def_ 31 (d := d_back) rfl
  g_behind := He.glo_ok X G (c.t.d.fact 32 (f := .glo "behind") rfl)
  f_behind := c.t.d.def_ 32 (d := d_behind) rfl
  g_turn_quotient := He.glo_ok X G (c.t.d.fact 33 (f := .glo "turn_quotient") rfl)
  f_turn_quotient := c.t.d.def_ 33 (d := d_turn_quotient) rfl
  g__law_pot := He.glo_ok X G (c.t.d.fact 34 (f := .glo "_law_pot") rfl)
  f__law_pot := c.t.d.def_ 34 (d := d__law_pot) rfl
  g__law_draw := He.glo_ok X G (c.t.d.fact 35 (f := .glo "_law_draw") rfl)
  f__law_draw := c.t.d.def_ 35 (d := d__law_draw) rfl
  g__law_pick := He.glo_ok X G (c.t.d.fact 36 (f := .glo "_law_pick") rfl)
  f__law_pick := c.t.d.def_ 36 (d := d__law_pick) rfl
  g__law_common := He.glo_ok X G (c.t.d.fact 37 (f := .glo "_law_common") rfl)
  f__law_common := c.t.d.def_ 37 (d := d__law_common) rfl
  g__law_cut := He.glo_ok X G (c.t.d.fact 38 (f := .glo "_law_cut") rfl)
  f__law_cut := c.t.d.def_ 38 (d := d__law_cut) rfl
  g__law_less := He.glo_ok X G (c.t.d.fact 39 (f := .glo "_law_less") rfl)
  f__law_less := c.t.d.def_ 39 (d := d__law_less) rfl
  g__law_times := He.glo_ok X G (c.t.d.fact 40 (f := .glo "_law_times") rfl)
  f__law_times := c.t.d.def_ 40 (d := d__law_times) rfl
  g__law_mirror := He.glo_ok X G (c.t.d.fact 41 (f := .glo "_law_mirror") rfl)
  f__law_mirror := c.t.d.def_ 41 (d := d__law_mirror) rfl
  g__law_over := He.glo_ok X G (c.t.d.fact 42 (f := .glo "_law_over") rfl)
  f__law_over := c.t.d.def_ 42 (d := d__law_over) rfl
  g__law_size := He.glo_ok X G (c.t.d.fact 43 (f := .glo "_law_size") rfl)
  f__law_size := c.t.d.def_ 43 (d := d__law_size) rfl
  g__law_is_nought := He.glo_ok X G (c.t.d.fact 44 (f := .glo "_law_is_nought") rfl)
  f__law_is_nought := c.t.d.def_ 44 (d := d__law_is_nought) rfl
  g__law_fraction := He.glo_ok X G (c.t.d.fact 45 (f := .glo "_law_fraction") rfl)
  f__law_fraction := c.t.d.def_ 45 (d := d__law_fraction) rfl
  g__law_number := He.glo_ok X G (c.t.d.fact 46 (f := .glo "_law_number") rfl)
  f__law_number := c.t.d.def_ 46 (d := d__law_number) rfl
  g__law_real := He.glo_ok X G (c.t.d.fact 47 (f := .glo "_law_real") rfl)
  f__law_real := c.t.d.def_ 47 (d := d__law_real) rfl
  g__law_line := He.glo_ok X G (c.t.d.fact 48 (f := .glo "_law_line") rfl)
  f__law_line := c.t.d.def_ 48 (d := d__law_line) rfl
  g__law_is_fraction := He.glo_ok X G (c.t.d.fact 49 (f := .glo "_law_is_fraction") rfl)
  f__law_is_fraction := c.t.d.def_ 49 (d := d__law_is_fraction) rfl
  g__law_is_number := He.glo_ok X G (c.t.d.fact 50 (f := .glo "_law_is_number") rfl)
  f__law_is_number := c.t.d.def_ 50 (d := d__law_is_number) rfl
  g__law_read := He.glo_ok X G (c.t.d.fact 51 (f := .glo "_law_read") rfl)
  f__law_read := c.t.d.def_ 51 (d := d__law_read) rfl
  g__law_is_line := He.glo_ok X G (c.t.d.fact 52 (f := .glo "_law_is_line") rfl)
  f__law_is_line := c.t.d.def_ 52 (d := d__law_is_line) rfl
  g__law_gauss := He.glo_ok X G (c.t.d.fact 53 (f := .glo "_law_gauss") rfl)
  f__law_gauss := c.t.d.def_ 53 (d := d__law_gauss) rfl
  g__law_root := He.glo_ok X G (c.t.d.fact 54 (f := .glo "_law_root") rfl)
  f__law_root := c.t.d.def_ 54 (d := d__law_root) rfl
  g__law_place := He.glo_ok X G (c.t.d.fact 55 (f := .glo "_law_place") rfl)
  f__law_place := c.t.d.def_ 55 (d := d__law_place) rfl
  g__law_bound := He.glo_ok X G (c.t.d.fact 56 (f := .glo "_law_bound") rfl)
  f__law_bound := c.t.d.def_ 56 (d := d__law_bound) rfl
  g__law_within := He.glo_ok X G (c.t.d.fact 57 (f := .glo "_law_within") rfl)
  f__law_within := c.t.d.def_ 57 (d := d__law_within) rfl
  g__law_unit := He.glo_ok X G (c.t.d.fact 58 (f := .glo "_law_unit") rfl)
  f__law_unit := c.t.d.def_ 58 (d := d__law_unit) rfl
  g__law_row_cut := He.glo_ok X G (c.t.d.fact 59 (f := .glo "_law_row_cut") rfl)
  f__law_row_cut := c.t.d.def_ 59 (d := d__law_row_cut) rfl
  g__law_quotient := He.glo_ok X G (c.t.d.fact 60 (f := .glo "_law_quotient") rfl)
  f__law_quotient := c.t.d.def_ 60 (d := d__law_quotient) rfl
  g__law_turn_rows := He.glo_ok X G (c.t.d.fact 61 (f := .glo "_law_turn_rows") rfl)
  f__law_turn_rows := c.t.d.def_ 61 (d := d__law_turn_rows) rfl
  g__law_leads := He.glo_ok X G (c.t.d.fact 62 (f := .glo "_law_leads") rfl)
  f__law_leads := c.t.d.def_ 62 (d := d__law_leads) rfl
  g__law_drawn_turn := He.glo_ok X G (c.t.d.fact 63 (f := .glo "_law_drawn_turn") rfl)
  f__law_drawn_turn := c.t.d.def_ 63 (d := d__law_drawn_turn) rfl
  g__law_turn := He.glo_ok X G (c.t.d.fact 64 (f := .glo "_law_turn") rfl)
  f__law_turn := c.t.d.def_ 64 (d := d__law_turn) rfl
  g__law_below := He.glo_ok X G (c.t.d.fact 65 (f := .glo "_law_below") rfl)
  f__law_below := c.t.d.def_ 65 (d := d__law_below) rfl
  g__law_is_turn := He.glo_ok X G (c.t.d.fact 66 (f := .glo "_law_is_turn") rfl)
  f__law_is_turn := c.t.d.def_ 66 (d := d__law_is_turn) rfl
  g__law_maybe := He.glo_ok X G (c.t.d.fact 67 (f := .glo "_law_maybe") rfl)
  f__law_maybe := c.t.d.def_ 67 (d := d__law_maybe) rfl
  g__law_numbers := He.glo_ok X G (c.t.d.fact 68 (f := .glo "_law_numbers") rfl)
  f__law_numbers := c.t.d.def_ 68 (d := d__law_numbers) rfl
  g__law_led_right := He.glo_ok X G (c.t.d.fact 69 (f := .glo "_law_led_right") rfl)
  f__law_led_right := c.t.d.def_ 69 (d := d__law_led_right) rfl
  g__law_right := He.glo_ok X G (c.t.d.fact 70 (f := .glo "_law_right") rfl)
  f__law_right := c.t.d.def_ 70 (d := d__law_right) rfl
  g_law := He.glo_ok X G (c.t.d.fact 71 (f := .glo "law") rfl)
  f_law := c.t.d.def_ 71 (d := d_law) rfl
  b_abs := He.free_ok X G (c.t.d.fact 72 (f := .free "abs") rfl)
  b_bool := He.free_ok X G (c.t.d.fact 73 (f := .free "bool") rfl)
  b_divmod := He.free_ok X G (c.t.d.fact 74 (f := .free "divmod") rfl)
  b_enumerate := He.free_ok X G (c.t.d.fact 75 (f := .free "enumerate") rfl)
  b_int := He.free_ok X G (c.t.d.fact 76 (f := .free "int") rfl)
  b_isinstance := He.free_ok X G (c.t.d.fact 77 (f := .free "isinstance") rfl)
  b_len := He.free_ok X G (c.t.d.fact 78 (f := .free "len") rfl)
  b_max := He.free_ok X G (c.t.d.fact 79 (f := .free "max") rfl)
  b_min := He.free_ok X G (c.t.d.fact 80 (f := .free "min") rfl)
  b_range := He.free_ok X G (c.t.d.fact 81 (f := .free "range") rfl)
  b_repr := He.free_ok X G (c.t.d.fact 82 (f := .free "repr") rfl)
  b_tuple := He.free_ok X G (c.t.d.fact 83 (f := .free "tuple") rfl)
  c_ONE := con_ok X G (exB2_1 c.more) 0 (q := ("ONE", c_ONE)) rfl
  c_NOUGHT := con_ok X G (exB2_1 c.more) 1 (q := ("NOUGHT", c_NOUGHT)) rfl
  c_UNIT := con_ok X G (exB2_1 c.more) 2 (q := ("UNIT", c_UNIT)) rfl
  i_gcd := imp_ok X G (exB2_1 c.more) 0 (q := ("gcd", "math.gcd")) rfl
  v_is_turn_0 := dfl_ok c.more 0 (q := (("is_turn", 0), .tuple [.int 1, .int 1])) rfl
  v_led_0 := dfl_ok c.more 1 (q := (("led", 0), .tuple [.int 1, .int 1])) rfl
  v_behind_0 := dfl_ok c.more 2 (q := (("behind", 0), .tuple [.int 1, .int 1])) rfl
  v_turn_quotient_0 := dfl_ok c.more 3 (q := (("turn_quotient", 0), .tuple [.int 1, .int 1])) rfl
theorem kp_1_0_rel {zs : List V} {ws : List Value} (r : Vals zs ws) : Vals (kp_1_0 zs) (kp_1_0 ws) := by
  cases r with
  | nil => exact .nil
  | cons r0 r =>
    cases r with
    | nil => exact .cons r0 (.nil)
    | cons rn r => exact .cons r0 (.cons rn r)
theorem kp_1_0_dat {K : PySem.W.Frag} (G : Hp) (vs : List V) (ds : List PyData) (h : DpAll K G vs ds) (hn : ds.length = 1) : DpAll K G (kp_1_0 vs) (kp_1_0 ds) := by
  cases h with
  | nil => cases hn
  | cons h0 h =>
    cases h with
    | nil => exact .cons h0 (.nil)
    | cons _ _ => exact absurd hn (by simp)
theorem kp_2_10_rel {zs : List V} {ws : List Value} (r : Vals zs ws) : Vals (kp_2_10 zs) (kp_2_10 ws) := by
  cases r with
  | nil => exact .nil
  | cons r0 r =>
    cases r with
    | nil => exact .cons r0 (.nil)
    | cons r1 r =>
      cases r with
      | nil => exact .cons r1 (.cons r0 (.nil))
      | cons rn r => exact .cons r0 (.cons r1 (.cons rn r))
theorem kp_2_10_dat {K : PySem.W.Frag} (G : Hp) (vs : List V) (ds : List PyData) (h : DpAll K G vs ds) (hn : ds.length = 2) : DpAll K G (kp_2_10 vs) (kp_2_10 ds) := by
  cases h with
  | nil => cases hn
  | cons h0 h =>
    cases h with
    | nil => cases hn
    | cons h1 h =>
      cases h with
      | nil => exact .cons h1 (.cons h0 (.nil))
      | cons _ _ => exact absurd hn (by simp)
theorem kp_3_210_rel {zs : List V} {ws : List Value} (r : Vals zs ws) : Vals (kp_3_210 zs) (kp_3_210 ws) := by
  cases r with
  | nil => exact .nil
  | cons r0 r =>
    cases r with
    | nil => exact .cons r0 (.nil)
    | cons r1 r =>
      cases r with
      | nil => exact .cons r0 (.cons r1 (.nil))
      | cons r2 r =>
        cases r with
        | nil => exact .cons r2 (.cons r1 (.cons r0 (.nil)))
        | cons rn r => exact .cons r0 (.cons r1 (.cons r2 (.cons rn r)))
theorem kp_3_210_dat {K : PySem.W.Frag} (G : Hp) (vs : List V) (ds : List PyData) (h : DpAll K G vs ds) (hn : ds.length = 3) : DpAll K G (kp_3_210 vs) (kp_3_210 ds) := by
  cases h with
  | nil => cases hn
  | cons h0 h =>
    cases h with
    | nil => cases hn
    | cons h1 h =>
      cases h with
      | nil => cases hn
      | cons h2 h =>
        cases h with
        | nil => exact .cons h2 (.cons h1 (.cons h0 (.nil)))
        | cons _ _ => exact absurd hn (by simp)
theorem sc_reduced : FnScope ["n", "m", "shared"] ["n", "m"] (defScope s_reduced) := ⟨rfl, rfl, rfl, by decide +kernel, rfl, by decide +kernel, by decide +kernel⟩
theorem ok_reduced {P : Program} {w : World} {K : PySem.W.Frag} {mg : Str → Option Value} {base : Heap} (T : Txt K mg) :
    ∃ fd, FnG P w K mg base CX0 1 (He.ga K "reduced") fd ["n", "m"] (spF K 2 F_reduced) ∧ FunD K "reduced" "reduced" (defArgs s_reduced) (defBody s_reduced) (defScope s_reduced) [] [] (He.ga K "reduced") fd := by
  obtain ⟨fd, F⟩ := T.f_reduced
  refine ⟨fd, fn_F F sc_reduced rfl rfl fun cdv A outer s H E p hr hg => ⟨_, (dss_cons (ds_set (i := 2) sc_reduced.nd rfl (Or.inl rfl) (de_fun db_gcd rfl T.i_gcd (da_cons (dn 0) (da_cons (dn 1) da_nil)))) (dss_cons (ds_if (dt_cmp do_lt (dn 1) de_int (nomark _)) (dss_one (ds_set (i := 2) sc_reduced.nd rfl (Or.inl rfl) (de_neg (dn 2)))) dss_nil) (dss_one (ds_ret (de_tup (da_cons (de_op do_div (dn 0) (dn 2)) (da_cons (de_op do_div (dn 1) (dn 2)) da_nil)))))))⟩, F⟩
theorem sc_order : FnScope ["x", "y", "left", "right"] ["x", "y"] (defScope s_order) := ⟨rfl, rfl, rfl, by decide +kernel, rfl, by decide +kernel, by decide +kernel⟩
theorem ok_order {P : Program} {w : World} {K : PySem.W.Frag} {mg : Str → Option Value} {base : Heap} (T : Txt K mg) :
    ∃ fd, FnG P w K mg base CX0 1 (He.ga K "order") fd ["x", "y"] (spF K 2 F_order) ∧ FunD K "order" "order" (defArgs s_order) (defBody s_order) (defScope s_order) [] [] (He.ga K "order") fd := by
  obtain ⟨fd, F⟩ := T.f_order
  refine ⟨fd, fn_F F sc_order rfl rfl fun cdv A outer s H E p hr hg => ⟨_, (dss_cons (ds_par (i := 2) (j := 3) rfl sc_order.nd rfl rfl (by decide) rfl rfl (da_cons (de_op do_mul (de_ix do_ix (dn 0) de_int (fun _ _ => rfl)) (de_ix do_ix (dn 1) de_int (fun _ _ => rfl))) (da_cons (de_op do_mul (de_ix do_ix (dn 1) de_int (fun _ _ => rfl)) (de_ix do_ix (dn 0) de_int (fun _ _ => rfl))) da_nil)) rfl) (dss_cons (ds_if (dt_cmp (do_eq hr.units) (dn 2) (dn 3) (nomark _)) (dss_one (ds_ret de_int)) dss_nil) (dss_one (ds_ret (de_if (dt_cmp do_lt (dn 2) (dn 3) (nomark _)) (de_neg de_int) de_int)))))⟩, F⟩
theorem sc_mirror : FnScope ["x", "n", "m"] ["x"] (defScope s_mirror) := ⟨rfl, rfl, rfl, by decide +kernel, rfl, by decide +kernel, by decide +kernel⟩
theorem ok_mirror {P : Program} {w : World} {K : PySem.W.Frag} {mg : Str → Option Value} {base : Heap} (T : Txt K mg) :
    ∃ fd, FnG P w K mg base CX0 1 (He.ga K "mirror") fd ["x"] (spF K 1 F_mirror) ∧ FunD K "mirror" "mirror" (defArgs s_mirror) (defBody s_mirror) (defScope s_mirror) [] [] (He.ga K "mirror") fd := by
  obtain ⟨fd, F⟩ := T.f_mirror
  refine ⟨fd, fn_F F sc_mirror rfl rfl fun cdv A outer s H E p hr hg => ⟨_, (dss_cons (ds_asg (de_ix do_ix (dn 0) de_int (fun _ _ => rfl)) (dv_tup rfl (dvs_cons (dv_name (i := 1) sc_mirror.nd rfl (Or.inl rfl)) (dvs_cons (dv_name (i := 2) sc_mirror.nd rfl (Or.inl rfl)) dvs_nil)))) (dss_one (ds_ret (de_tup (da_cons (de_ix do_ix (dn 0) de_int (fun _ _ => rfl)) (da_cons (de_tup (da_cons (de_neg (dn 1)) (da_cons (dn 2) da_nil))) da_nil))))))⟩, F⟩
theorem sc_trimmed : FnScope ["numbers", "last"] ["numbers"] (defScope s_trimmed) := ⟨rfl, rfl, rfl, by decide +kernel, rfl, by decide +kernel, by decide +kernel⟩
theorem ok_trimmed {P : Program} {w : World} {K : PySem.W.Frag} {mg : Str → Option Value} {base : Heap} (T : Txt K mg) :
    ∃ fd, FnG P w K mg base CX0 1 (He.ga K "trimmed") fd ["numbers"] (spF K 1 F_trimmed) ∧ FunD K "trimmed" "trimmed" (defArgs s_trimmed) (defBody s_trimmed) (defScope s_trimmed) [] [] (He.ga K "trimmed") fd := by
  obtain ⟨fd, F⟩ := T.f_trimmed
  obtain ⟨⟨v_NOUGHT, u_NOUGHT, m_NOUGHT, r_NOUGHT, d_NOUGHT⟩⟩ := T.c_NOUGHT
  refine ⟨fd, fn_F F sc_trimmed rfl rfl fun cdv A outer s H E p hr hg => ⟨_, (dss_cons (ds_set (i := 1) sc_trimmed.nd rfl (Or.inl rfl) (de_cb db_len rfl T.b_len (by decide +kernel) (da_cons (dn 0) da_nil))) (dss_cons (ds_while PassesOwn.never (dt_w (dw_and (dt_cmp do_gt (dn 1) de_int (nomark _)) (dw_and1 (dt_cmp (do_eq hr.units) (de_ix do_ix (dn 0) (de_op do_sub (dn 1) de_int) (fun _ _ => rfl)) (de_con rfl m_NOUGHT r_NOUGHT d_NOUGHT) (nomark _))))) (dss_one (ds_aug (i := 1) sc_trimmed.nd rfl (Or.inl rfl) de_int ip_sub))) (dss_one (ds_ret (de_cty db_tup rfl T.b_tuple (by decide +kernel) (da_cons (de_sl (dn 0) do_none (do_some (dn 1))) da_nil))))))⟩, F⟩
theorem sc_is_whole : FnScope ["value"] ["value"] (defScope s_is_whole) := ⟨rfl, rfl, rfl, by decide +kernel, rfl, by decide +kernel, by decide +kernel⟩
theorem ok_is_whole {P : Program} {w : World} {K : PySem.W.Frag} {mg : Str → Option Value} {base : Heap} (T : Txt K mg) :
    ∃ fd, FnG P w K mg base CX0 1 (He.ga K "is_whole") fd ["value"] (spF K 1 F_is_whole) ∧ FunD K "is_whole" "is_whole" (defArgs s_is_whole) (defBody s_is_whole) (defScope s_is_whole) [] [] (He.ga K "is_whole") fd := by
  obtain ⟨fd, F⟩ := T.f_is_whole
  refine ⟨fd, fn_F F sc_is_whole rfl rfl fun cdv A outer s H E p hr hg => ⟨_, (dss_one (ds_ret (de_and (de_isi kit_int rfl T.b_isinstance (by decide +kernel) (dn 0) (pe_bltn (v := .ty "int") rfl T.b_int (by decide +kernel) rfl)) (de_one (de_not (de_isi kit_bool rfl T.b_isinstance (by decide +kernel) (dn 0) (pe_bltn (v := .ty "bool") rfl T.b_bool (by decide +kernel) rfl)))))))⟩, F⟩
theorem sc__law_pot : FnScope ["script", "lap", "mixed", "at", "cell", "own"] ["script", "lap"] (defScope s__law_pot) := ⟨rfl, rfl, rfl, by decide +kernel, rfl, by decide +kernel, by decide +kernel⟩
theorem ok__law_pot {P : Program} {w : World} {K : PySem.W.Frag} {mg : Str → Option Value} {base : Heap} (T : Txt K mg) :
    ∃ fd, FnG P w K mg base CX0 1 (He.ga K "_law_pot") fd ["script", "lap"] (spPail K) ∧ FunD K "_law_pot" "_law_pot" (defArgs s__law_pot) (defBody s__law_pot) (defScope s__law_pot) [] [] (He.ga K "_law_pot") fd := by
  obtain ⟨fd, F⟩ := T.f__law_pot
  refine ⟨fd, fn_M F sc__law_pot rfl rfl F__law_pot_ok fun cdv A outer s H E p hr hg => ⟨_, (dsm_cons (ds_set (i := 2) sc__law_pot.nd rfl (Or.inl rfl) (de_op do_add de_int (de_op do_mul de_int (dn 1)))) (dsm_cons (ds_for PassesOwn.never rfl (di_enum rfl T.b_enumerate (da_cons (de_sl (dn 0) do_none (do_some de_int)) da_nil)) (dv_tup rfl (dvs_cons (dv_name (i := 3) sc__law_pot.nd rfl (Or.inl rfl)) (dvs_cons (dv_name (i := 4) sc__law_pot.nd rfl (Or.inl rfl)) dvs_nil))) (dss_one (ds_set (i := 2) sc__law_pot.nd rfl (Or.inl rfl) (de_op do_mod (de_cty db_int rfl T.b_int (by decide +kernel) (da_cons (de_op do_add (de_op do_add (de_op do_mul (dn 2) de_int) (de_op do_mul (de_cty db_int rfl T.b_int (by decide +kernel) (da_cons (dn 4) da_nil)) (de_op do_add (de_op do_mul de_int (dn 3)) de_int))) de_int) da_nil)) de_int)))) (dsm_cons (ds_set (i := 5) sc__law_pot.nd rfl (Or.inl rfl) (de_if (dt_cmp do_lt (dn 1) (de_cb db_len rfl T.b_len (by decide +kernel) (da_cons (dn 0) da_nil)) (nomark _)) (de_cb db_abs rfl T.b_abs (by decide +kernel) (da_cons (de_cty db_int rfl T.b_int (by decide +kernel) (da_cons (de_ix do_ix (dn 0) (dn 1) (fun _ _ => rfl)) da_nil)) da_nil)) de_int)) (dsm_ret (dm_lst (da_cons (de_if (dt_cmp do_ge (dn 5) (de_op do_pow de_int de_int) (nomark _)) (dn 5) de_int) (da_cons (de_op do_mod (de_cty db_int rfl T.b_int (by decide +kernel) (da_cons (de_op do_add (de_op do_add (de_op do_mul (dn 2) de_int) (dn 5)) (de_op do_mul de_int (dn 1))) da_nil)) de_int) (da_cons de_int da_nil))))))))⟩, F⟩
theorem sc__law_draw : FnScope ["pot", "many", "digit"] ["pot", "many"] (defScope s__law_draw) := ⟨rfl, rfl, rfl, by decide +kernel, rfl, by decide +kernel, by decide +kernel⟩
theorem ok__law_draw {P : Program} {w : World} {K : PySem.W.Frag} {mg : Str → Option Value} {base : Heap} (T : Txt K mg) :
    ∃ fd, FnG P w K mg base CX0 1 (He.ga K "_law_draw") fd ["pot", "many"] (spQ K 2 F__law_draw) ∧ FunD K "_law_draw" "_law_draw" (defArgs s__law_draw) (defBody s__law_draw) (defScope s__law_draw) [] [] (He.ga K "_law_draw") fd := by
  obtain ⟨fd, F⟩ := T.f__law_draw
  refine ⟨fd, fn_Q F sc__law_draw rfl rfl fun cdv A outer s H E a hr hg => ⟨_, (dss_cons (ds_if (dt_cmp do_gt (de_pix (i := 0) (by decide) rfl (Or.inl rfl)) de_int (nomark _)) (dss_cons (ds_ppar (i := 0) (m := 2) (by decide) sc__law_draw.nd rfl (Or.inl rfl) rfl (Or.inl rfl) rfl (de_cb db_divmod rfl T.b_divmod (by decide +kernel) (da_cons (de_pix (i := 0) (by decide) rfl (Or.inl rfl)) (da_cons (dn 1) da_nil)))) (dss_one (ds_ret (dn 2)))) dss_nil) (dss_cons (ds_pset (i := 2) (by decide) rfl (Or.inl rfl) (de_op do_add (de_pix (i := 2) (by decide) rfl (Or.inl rfl)) de_int)) (dss_cons (ds_pset (i := 1) (by decide) rfl (Or.inl rfl) (de_op do_mod (de_cty db_int rfl T.b_int (by decide +kernel) (da_cons (de_op do_add (de_op do_add (de_op do_mul (de_pix (i := 1) (by decide) rfl (Or.inl rfl)) de_int) (de_op do_mul de_int (de_pix (i := 2) (by decide) rfl (Or.inl rfl)))) de_int) da_nil)) de_int)) (dss_one (ds_ret (de_op do_mod (de_cty db_int rfl T.b_int (by decide +kernel) (da_cons (de_op do_div (de_op do_mul (de_pix (i := 1) (by decide) rfl (Or.inl rfl)) (de_op do_add (de_op do_add (de_op do_div (de_pix (i := 1) (by decide) rfl (Or.inl rfl)) de_int) (de_op do_mul de_int (de_pix (i := 2) (by decide) rfl (Or.inl rfl)))) de_int)) de_int) da_nil)) (dn 1)))))))⟩, F⟩
theorem sc__law_common : FnScope ["a", "b"] ["a", "b"] (defScope s__law_common) := ⟨rfl, rfl, rfl, by decide +kernel, rfl, by decide +kernel, by decide +kernel⟩
theorem ok__law_common {P : Program} {w : World} {K : PySem.W.Frag} {mg : Str → Option Value} {base : Heap} (T : Txt K mg) :
    ∃ fd, FnG P w K mg base CX0 1 (He.ga K "_law_common") fd ["a", "b"] (spF K 2 F__law_common) ∧ FunD K "_law_common" "_law_common" (defArgs s__law_common) (defBody s__law_common) (defScope s__law_common) [] [] (He.ga K "_law_common") fd := by
  obtain ⟨fd, F⟩ := T.f__law_common
  refine ⟨fd, fn_F F sc__law_common rfl rfl fun cdv A outer s H E p hr hg => ⟨_, (dss_cons (ds_par (i := 0) (j := 1) rfl sc__law_common.nd rfl rfl (by decide) rfl rfl (da_cons (de_cb db_abs rfl T.b_abs (by decide +kernel) (da_cons (dn 0) da_nil)) (da_cons (de_cb db_abs rfl T.b_abs (by decide +kernel) (da_cons (dn 1) da_nil)) da_nil)) rfl) (dss_cons (ds_while PassesOwn.never (dt_cmp do_gt (dn 1) de_int (nomark _)) (dss_one (ds_par (i := 0) (j := 1) rfl sc__law_common.nd rfl rfl (by decide) rfl rfl (da_cons (dn 1) (da_cons (de_op do_mod (de_cty db_int rfl T.b_int (by decide +kernel) (da_cons (dn 0) da_nil)) (dn 1)) da_nil)) rfl))) (dss_one (ds_ret (dn 0)))))⟩, F⟩
theorem sc__law_mirror : FnScope ["x"] ["x"] (defScope s__law_mirror) := ⟨rfl, rfl, rfl, by decide +kernel, rfl, by decide +kernel, by decide +kernel⟩
theorem ok__law_mirror {P : Program} {w : World} {K : PySem.W.Frag} {mg : Str → Option Value} {base : Heap} (T : Txt K mg) :
    ∃ fd, FnG P w K mg base CX0 1 (He.ga K "_law_mirror") fd ["x"] (spF K 1 F__law_mirror) ∧ FunD K "_law_mirror" "_law_mirror" (defArgs s__law_mirror) (defBody s__law_mirror) (defScope s__law_mirror) [] [] (He.ga K "_law_mirror") fd := by
  obtain ⟨fd, F⟩ := T.f__law_mirror
  refine ⟨fd, fn_F F sc__law_mirror rfl rfl fun cdv A outer s H E p hr hg => ⟨_, (dss_one (ds_ret (de_tup (da_cons (de_ix do_ix (dn 0) de_int (fun _ _ => rfl)) (da_cons (de_neg (de_ix do_ix (dn 0) de_int (fun _ _ => rfl))) (da_cons (de_ix do_ix (dn 0) de_int (fun _ _ => rfl)) da_nil))))))⟩, F⟩
theorem sc__law_is_nought : FnScope ["x"] ["x"] (defScope s__law_is_nought) := ⟨rfl, rfl, rfl, by decide +kernel, rfl, by decide +kernel, by decide +kernel⟩
theorem ok__law_is_nought {P : Program} {w : World} {K : PySem.W.Frag} {mg : Str → Option Value} {base : Heap} (T : Txt K mg) :
    ∃ fd, FnG P w K mg base CX0 1 (He.ga K "_law_is_nought") fd ["x"] (spF K 1 F__law_is_nought) ∧ FunD K "_law_is_nought" "_law_is_nought" (defArgs s__law_is_nought) (defBody s__law_is_nought) (defScope s__law_is_nought) [] [] (He.ga K "_law_is_nought") fd := by
  obtain ⟨fd, F⟩ := T.f__law_is_nought
  refine ⟨fd, fn_F F sc__law_is_nought rfl rfl fun cdv A outer s H E p hr hg => ⟨_, (dss_one (ds_ret (de_and (de_cmp (do_eq hr.units) (de_ix do_ix (dn 0) de_int (fun _ _ => rfl)) de_int (nomark _)) (de_one (de_cmp (do_eq hr.units) (de_ix do_ix (dn 0) de_int (fun _ _ => rfl)) de_int (nomark _))))))⟩, F⟩
theorem sc__law_real : FnScope ["pair"] ["pair"] (defScope s__law_real) := ⟨rfl, rfl, rfl, by decide +kernel, rfl, by decide +kernel, by decide +kernel⟩
theorem ok__law_real {P : Program} {w : World} {K : PySem.W.Frag} {mg : Str → Option Value} {base : Heap} (T : Txt K mg) :
    ∃ fd, FnG P w K mg base CX0 1 (He.ga K "_law_real") fd ["pair"] (spF K 1 F__law_real_2) ∧ FunD K "_law_real" "_law_real" (defArgs s__law_real) (defBody s__law_real) (defScope s__law_real) [] [] (He.ga K "_law_real") fd := by
  obtain ⟨fd, F⟩ := T.f__law_real
  refine ⟨fd, fn_F F sc__law_real rfl rfl fun cdv A outer s H E p hr hg => ⟨_, (dss_one (ds_ret (de_tup (da_cons (de_ix do_ix (dn 0) de_int (fun _ _ => rfl)) (da_cons de_int (da_cons (de_ix do_ix (dn 0) de_int (fun _ _ => rfl)) da_nil))))))⟩, F⟩
theorem sc__law_root : FnScope ["n", "x", "y"] ["n"] (defScope s__law_root) := ⟨rfl, rfl, rfl, by decide +kernel, rfl, by decide +kernel, by decide +kernel⟩
theorem ok__law_root {P : Program} {w : World} {K : PySem.W.Frag} {mg : Str → Option Value} {base : Heap} (T : Txt K mg) :
    ∃ fd, FnG P w K mg base CX0 1 (He.ga K "_law_root") fd ["n"] (spF K 1 F__law_root) ∧ FunD K "_law_root" "_law_root" (defArgs s__law_root) (defBody s__law_root) (defScope s__law_root) [] [] (He.ga K "_law_root") fd := by
  obtain ⟨fd, F⟩ := T.f__law_root
  refine ⟨fd, fn_F F sc__law_root rfl rfl fun cdv A outer s H E p hr hg => ⟨_, (dss_cons (ds_par (i := 1) (j := 2) rfl sc__law_root.nd rfl rfl (by decide) rfl rfl (da_cons (dn 0) (da_cons (de_op do_div (de_op do_add (dn 0) de_int) de_int) da_nil)) rfl) (dss_cons (ds_while PassesOwn.never (dt_cmp do_lt (dn 2) (dn 1) (nomark _)) (dss_one (ds_par (i := 1) (j := 2) rfl sc__law_root.nd rfl rfl (by decide) rfl rfl (da_cons (dn 2) (da_cons (de_op do_div (de_op do_add (dn 2) (de_op do_div (dn 0) (dn 2))) de_int) da_nil)) rfl))) (dss_one (ds_ret (dn 1)))))⟩, F⟩
theorem sc_fraction_plus : FnScope ["x", "y"] ["x", "y"] (defScope s_fraction_plus) := ⟨rfl, rfl, rfl, by decide +kernel, rfl, by decide +kernel, by decide +kernel⟩
theorem ok_fraction_plus {P : Program} {w : World} {K : PySem.W.Frag} {mg : Str → Option Value} {base : Heap} (T : Txt K mg) :
    ∃ fd, FnG P w K mg base CX0 2 (He.ga K "fraction_plus") fd ["x", "y"] (spF K 2 F_fraction_plus) ∧ FunD K "fraction_plus" "fraction_plus" (defArgs s_fraction_plus) (defBody s_fraction_plus) (defScope s_fraction_plus) [] [] (He.ga K "fraction_plus") fd := by
  obtain ⟨fd, F⟩ := T.f_fraction_plus
  obtain ⟨fd_reduced, G_reduced, K_reduced⟩ := ok_reduced (P := P) (w := w) (base := base) T
  have B_reduced := K_reduced.bindsN (ps := ["n", "m"]) fun _ _ _ _ _ _ us hl => match us, hl with | [_, _], _ => rfl
  refine ⟨fd, fn_F F sc_fraction_plus rfl rfl fun cdv A outer s H E p hr hg => ⟨_, (dss_one (ds_ret (de_call G_reduced mkF_ari (hr.mono (by decide)) hg rfl T.g_reduced K_reduced.kp B_reduced pass0 (da_cons (de_op do_add (de_op do_mul (de_ix do_ix (dn 0) de_int (fun _ _ => rfl)) (de_ix do_ix (dn 1) de_int (fun _ _ => rfl))) (de_op do_mul (de_ix do_ix (dn 1) de_int (fun _ _ => rfl)) (de_ix do_ix (dn 0) de_int (fun _ _ => rfl)))) (da_cons (de_op do_mul (de_ix do_ix (dn 0) de_int (fun _ _ => rfl)) (de_ix do_ix (dn 1) de_int (fun _ _ => rfl))) da_nil)))))⟩, F⟩
theorem sc_fraction_less : FnScope ["x", "y"] ["x", "y"] (defScope s_fraction_less) := ⟨rfl, rfl, rfl, by decide +kernel, rfl, by decide +kernel, by decide +kernel⟩
theorem ok_fraction_less {P : Program} {w : World} {K : PySem.W.Frag} {mg : Str → Option Value} {base : Heap} (T : Txt K mg) :
    ∃ fd, FnG P w K mg base CX0 2 (He.ga K "fraction_less") fd ["x", "y"] (spF K 2 F_fraction_less) ∧ FunD K "fraction_less" "fraction_less" (defArgs s_fraction_less) (defBody s_fraction_less) (defScope s_fraction_less) [] [] (He.ga K "fraction_less") fd := by
  obtain ⟨fd, F⟩ := T.f_fraction_less
  obtain ⟨fd_reduced, G_reduced, K_reduced⟩ := ok_reduced (P := P) (w := w) (base := base) T
  have B_reduced := K_reduced.bindsN (ps := ["n", "m"]) fun _ _ _ _ _ _ us hl => match us, hl with | [_, _], _ => rfl
  refine ⟨fd, fn_F F sc_fraction_less rfl rfl fun cdv A outer s H E p hr hg => ⟨_, (dss_one (ds_ret (de_call G_reduced mkF_ari (hr.mono (by decide)) hg rfl T.g_reduced K_reduced.kp B_reduced pass0 (da_cons (de_op do_sub (de_op do_mul (de_ix do_ix (dn 0) de_int (fun _ _ => rfl)) (de_ix do_ix (dn 1) de_int (fun _ _ => rfl))) (de_op do_mul (de_ix do_ix (dn 1) de_int (fun _ _ => rfl)) (de_ix do_ix (dn 0) de_int (fun _ _ => rfl)))) (da_cons (de_op do_mul (de_ix do_ix (dn 0) de_int (fun _ _ => rfl)) (de_ix do_ix (dn 1) de_int (fun _ _ => rfl))) da_nil)))))⟩, F⟩
theorem sc_fraction_times : FnScope ["x", "y"] ["x", "y"] (defScope s_fraction_times) := ⟨rfl, rfl, rfl, by decide +kernel, rfl, by decide +kernel, by decide +kernel⟩
theorem ok_fraction_times {P : Program} {w : World} {K : PySem.W.Frag} {mg : Str → Option Value} {base : Heap} (T : Txt K mg) :
    ∃ fd, FnG P w K mg base CX0 2 (He.ga K "fraction_times") fd ["x", "y"] (spF K 2 F_fraction_times) ∧ FunD K "fraction_times" "fraction_times" (defArgs s_fraction_times) (defBody s_fraction_times) (defScope s_fraction_times) [] [] (He.ga K "fraction_times") fd := by
  obtain ⟨fd, F⟩ := T.f_fraction_times
  obtain ⟨fd_reduced, G_reduced, K_reduced⟩ := ok_reduced (P := P) (w := w) (base := base) T
  have B_reduced := K_reduced.bindsN (ps := ["n", "m"]) fun _ _ _ _ _ _ us hl => match us, hl with | [_, _], _ => rfl
  refine ⟨fd, fn_F F sc_fraction_times rfl rfl fun cdv A outer s H E p hr hg => ⟨_, (dss_one (ds_ret (de_call G_reduced mkF_ari (hr.mono (by decide)) hg rfl T.g_reduced K_reduced.kp B_reduced pass0 (da_cons (de_op do_mul (de_ix do_ix (dn 0) de_int (fun _ _ => rfl)) (de_ix do_ix (dn 1) de_int (fun _ _ => rfl))) (da_cons (de_op do_mul (de_ix do_ix (dn 0) de_int (fun _ _ => rfl)) (de_ix do_ix (dn 1) de_int (fun _ _ => rfl))) da_nil)))))⟩, F⟩
theorem sc_number_from : FnScope ["x", "y", "m"] ["x", "y", "m"] (defScope s_number_from) := ⟨rfl, rfl, rfl, by decide +kernel, rfl, by decide +kernel, by decide +kernel⟩
theorem ok_number_from {P : Program} {w : World} {K : PySem.W.Frag} {mg : Str → Option Value} {base : Heap} (T : Txt K mg) :
    ∃ fd, FnG P w K mg base CX0 2 (He.ga K "number_from") fd ["x", "y", "m"] (spF K 3 F_number_from) ∧ FunD K "number_from" "number_from" (defArgs s_number_from) (defBody s_number_from) (defScope s_number_from) [] [] (He.ga K "number_from") fd := by
  obtain ⟨fd, F⟩ := T.f_number_from
  obtain ⟨fd_reduced, G_reduced, K_reduced⟩ := ok_reduced (P := P) (w := w) (base := base) T
  have B_reduced := K_reduced.bindsN (ps := ["n", "m"]) fun _ _ _ _ _ _ us hl => match us, hl with | [_, _], _ => rfl
  refine ⟨fd, fn_F F sc_number_from rfl rfl fun cdv A outer s H E p hr hg => ⟨_, (dss_one (ds_ret (de_tup (da_cons (de_call G_reduced mkF_ari (hr.mono (by decide)) hg rfl T.g_reduced K_reduced.kp B_reduced pass0 (da_cons (dn 0) (da_cons (dn 2) da_nil))) (da_cons (de_call G_reduced mkF_ari (hr.mono (by decide)) hg rfl T.g_reduced K_reduced.kp B_reduced pass0 (da_cons (dn 1) (da_cons (dn 2) da_nil))) da_nil)))))⟩, F⟩
theorem sc_size_of : FnScope ["x", "a", "p", "b", "q"] ["x"] (defScope s_size_of) := ⟨rfl, rfl, rfl, by decide +kernel, rfl, by decide +kernel, by decide +kernel⟩
theorem ok_size_of {P : Program} {w : World} {K : PySem.W.Frag} {mg : Str → Option Value} {base : Heap} (T : Txt K mg) :
    ∃ fd, FnG P w K mg base CX0 2 (He.ga K "size_of") fd ["x"] (spF K 1 F_size_of) ∧ FunD K "size_of" "size_of" (defArgs s_size_of) (defBody s_size_of) (defScope s_size_of) [] [] (He.ga K "size_of") fd := by
  obtain ⟨fd, F⟩ := T.f_size_of
  obtain ⟨fd_reduced, G_reduced, K_reduced⟩ := ok_reduced (P := P) (w := w) (base := base) T
  have B_reduced := K_reduced.bindsN (ps := ["n", "m"]) fun _ _ _ _ _ _ us hl => match us, hl with | [_, _], _ => rfl
  refine ⟨fd, fn_F F sc_size_of rfl rfl fun cdv A outer s H E p hr hg => ⟨_, (dss_cons (ds_asg (dn 0) (dv_tup rfl (dvs_cons (dv_tup rfl (dvs_cons (dv_name (i := 1) sc_size_of.nd rfl (Or.inl rfl)) (dvs_cons (dv_name (i := 2) sc_size_of.nd rfl (Or.inl rfl)) dvs_nil))) (dvs_cons (dv_tup rfl (dvs_cons (dv_name (i := 3) sc_size_of.nd rfl (Or.inl rfl)) (dvs_cons (dv_name (i := 4) sc_size_of.nd rfl (Or.inl rfl)) dvs_nil))) dvs_nil)))) (dss_cons (ds_par (i := 1) (j := 3) rfl sc_size_of.nd rfl rfl (by decide) rfl rfl (da_cons (de_op do_mul (dn 1) (dn 4)) (da_cons (de_op do_mul (dn 3) (dn 2)) da_nil)) rfl) (dss_one (ds_ret (de_call G_reduced mkF_ari (hr.mono (by decide)) hg rfl T.g_reduced K_reduced.kp B_reduced pass0 (da_cons (de_op do_add (de_op do_mul (dn 1) (dn 1)) (de_op do_mul (dn 3) (dn 3))) (da_cons (de_op do_mul (de_op do_mul (de_op do_mul (dn 2) (dn 2)) (dn 4)) (dn 4)) da_nil)))))))⟩, F⟩
theorem sc_is_fraction : FnScope ["value", "n", "m"] ["value"] (defScope s_is_fraction) := ⟨rfl, rfl, rfl, by decide +kernel, rfl, by decide +kernel, by decide +kernel⟩
theorem ok_is_fraction {P : Program} {w : World} {K : PySem.W.Frag} {mg : Str → Option Value} {base : Heap} (T : Txt K mg) :
    ∃ fd, FnG P w K mg base CX0 2 (He.ga K "is_fraction") fd ["value"] (spF K 1 F_is_fraction) ∧ FunD K "is_fraction" "is_fraction" (defArgs s_is_fraction) (defBody s_is_fraction) (defScope s_is_fraction) [] [] (He.ga K "is_fraction") fd := by
  obtain ⟨fd, F⟩ := T.f_is_fraction
  obtain ⟨fd_is_whole, G_is_whole, K_is_whole⟩ := ok_is_whole (P := P) (w := w) (base := base) T
  have B_is_whole := K_is_whole.bindsN (ps := ["value"]) fun _ _ _ _ _ _ us hl => match us, hl with | [_], _ => rfl
  refine ⟨fd, fn_F F sc_is_fraction rfl rfl fun cdv A outer s H E p hr hg => ⟨_, (dss_cons (ds_if (dt_w (dw_or (dt_not (dt_tru (de_isi kit_tuple rfl T.b_isinstance (by decide +kernel) (dn 0) (pe_bltn (v := .ty "tuple") rfl T.b_tuple (by decide +kernel) rfl)))) (dw_or1 (dt_cmp (do_ne hr.units) (de_cb db_len rfl T.b_len (by decide +kernel) (da_cons (dn 0) da_nil)) de_int (nomark _))))) (dss_one (ds_ret de_bl)) dss_nil) (dss_cons (ds_asg (dn 0) (dv_tup rfl (dvs_cons (dv_name (i := 1) sc_is_fraction.nd rfl (Or.inl rfl)) (dvs_cons (dv_name (i := 2) sc_is_fraction.nd rfl (Or.inl rfl)) dvs_nil)))) (dss_one (ds_ret (de_and (de_call G_is_whole mkF_ari (hr.mono (by decide)) hg rfl T.g_is_whole K_is_whole.kp B_is_whole pass0 (da_cons (dn 1) da_nil)) (de_and (de_call G_is_whole mkF_ari (hr.mono (by decide)) hg rfl T.g_is_whole K_is_whole.kp B_is_whole pass0 (da_cons (dn 2) da_nil)) (de_and (de_cmp do_gt (dn 2) de_int (nomark _)) (de_one (de_cmp (do_eq hr.units) (de_fun db_gcd rfl T.i_gcd (da_cons (dn 1) (da_cons (dn 2) da_nil))) de_int (nomark _))))))))))⟩, F⟩
theorem sc__law_pick : FnScope ["pot", "some"] ["pot", "some"] (defScope s__law_pick) := ⟨rfl, rfl, rfl, by decide +kernel, rfl, by decide +kernel, by decide +kernel⟩
theorem ok__law_pick {P : Program} {w : World} {K : PySem.W.Frag} {mg : Str → Option Value} {base : Heap} (T : Txt K mg) :
    ∃ fd, FnG P w K mg base CX0 2 (He.ga K "_law_pick") fd ["pot", "some"] (spQ K 2 F__law_pick) ∧ FunD K "_law_pick" "_law_pick" (defArgs s__law_pick) (defBody s__law_pick) (defScope s__law_pick) [] [] (He.ga K "_law_pick") fd := by
  obtain ⟨fd, F⟩ := T.f__law_pick
  obtain ⟨fd__law_draw, G__law_draw, K__law_draw⟩ := ok__law_draw (P := P) (w := w) (base := base) T
  have B__law_draw := K__law_draw.bindsN (ps := ["pot", "many"]) fun _ _ _ _ _ _ us hl => match us, hl with | [_, _], _ => rfl
  refine ⟨fd, fn_Q F sc__law_pick rfl rfl fun cdv A outer s H E a hr hg => ⟨_, (dss_one (ds_ret (de_ix do_ix (dn 1) (de_callQ G__law_draw mkQ_ari (hr.mono (by decide)) hg rfl T.g__law_draw K__law_draw.kp B__law_draw pass0 (pv 0) (da_cons (de_cb db_len rfl T.b_len (by decide +kernel) (da_cons (dn 1) da_nil)) da_nil)) (fun _ _ => rfl))))⟩, F⟩
theorem sc__law_cut : FnScope ["a", "b", "d", "by"] ["a", "b", "d"] (defScope s__law_cut) := ⟨rfl, rfl, rfl, by decide +kernel, rfl, by decide +kernel, by decide +kernel⟩
theorem ok__law_cut {P : Program} {w : World} {K : PySem.W.Frag} {mg : Str → Option Value} {base : Heap} (T : Txt K mg) :
    ∃ fd, FnG P w K mg base CX0 2 (He.ga K "_law_cut") fd ["a", "b", "d"] (spF K 3 F__law_cut_2) ∧ FunD K "_law_cut" "_law_cut" (defArgs s__law_cut) (defBody s__law_cut) (defScope s__law_cut) [] [] (He.ga K "_law_cut") fd := by
  obtain ⟨fd, F⟩ := T.f__law_cut
  obtain ⟨fd__law_common, G__law_common, K__law_common⟩ := ok__law_common (P := P) (w := w) (base := base) T
  have B__law_common := K__law_common.bindsN (ps := ["a", "b"]) fun _ _ _ _ _ _ us hl => match us, hl with | [_, _], _ => rfl
  refine ⟨fd, fn_F F sc__law_cut rfl rfl fun cdv A outer s H E p hr hg => ⟨_, (dss_cons (ds_set (i := 3) sc__law_cut.nd rfl (Or.inl rfl) (de_call G__law_common mkF_ari (hr.mono (by decide)) hg rfl T.g__law_common K__law_common.kp B__law_common pass0 (da_cons (de_call G__law_common mkF_ari (hr.mono (by decide)) hg rfl T.g__law_common K__law_common.kp B__law_common pass0 (da_cons (dn 0) (da_cons (dn 1) da_nil))) (da_cons (dn 2) da_nil)))) (dss_one (ds_ret (de_tup (da_cons (de_op do_div (dn 0) (dn 3)) (da_cons (de_op do_div (dn 1) (dn 3)) (da_cons (de_op do_div (dn 2) (dn 3)) da_nil)))))))⟩, F⟩
theorem sc__law_fraction : FnScope ["n", "d", "by"] ["n", "d"] (defScope s__law_fraction) := ⟨rfl, rfl, rfl, by decide +kernel, rfl, by decide +kernel, by decide +kernel⟩
theorem ok__law_fraction {P : Program} {w : World} {K : PySem.W.Frag} {mg : Str → Option Value} {base : Heap} (T : Txt K mg) :
    ∃ fd, FnG P w K mg base CX0 2 (He.ga K "_law_fraction") fd ["n", "d"] (spF K 2 F__law_fraction_2) ∧ FunD K "_law_fraction" "_law_fraction" (defArgs s__law_fraction) (defBody s__law_fraction) (defScope s__law_fraction) [] [] (He.ga K "_law_fraction") fd := by
  obtain ⟨fd, F⟩ := T.f__law_fraction
  obtain ⟨fd__law_common, G__law_common, K__law_common⟩ := ok__law_common (P := P) (w := w) (base := base) T
  have B__law_common := K__law_common.bindsN (ps := ["a", "b"]) fun _ _ _ _ _ _ us hl => match us, hl with | [_, _], _ => rfl
  refine ⟨fd, fn_F F sc__law_fraction rfl rfl fun cdv A outer s H E p hr hg => ⟨_, (dss_cons (ds_set (i := 2) sc__law_fraction.nd rfl (Or.inl rfl) (de_call G__law_common mkF_ari (hr.mono (by decide)) hg rfl T.g__law_common K__law_common.kp B__law_common pass0 (da_cons (dn 0) (da_cons (dn 1) da_nil)))) (dss_one (ds_ret (de_tup (da_cons (de_op do_div (dn 0) (dn 2)) (da_cons (de_op do_div (dn 1) (dn 2)) da_nil))))))⟩, F⟩
theorem sc__law_is_fraction : FnScope ["thing", "each"] ["thing"] (defScope s__law_is_fraction) := ⟨rfl, rfl, rfl, by decide +kernel, rfl, by decide +kernel, by decide +kernel⟩
theorem ok__law_is_fraction {P : Program} {w : World} {K : PySem.W.Frag} {mg : Str → Option Value} {base : Heap} (T : Txt K mg) :
    ∃ fd, FnG P w K mg base CX0 2 (He.ga K "_law_is_fraction") fd ["thing"] (spF K 1 F__law_is_fraction_2) ∧ FunD K "_law_is_fraction" "_law_is_fraction" (defArgs s__law_is_fraction) (defBody s__law_is_fraction) (defScope s__law_is_fraction) [] [] (He.ga K "_law_is_fraction") fd := by
  obtain ⟨fd, F⟩ := T.f__law_is_fraction
  obtain ⟨fd__law_common, G__law_common, K__law_common⟩ := ok__law_common (P := P) (w := w) (base := base) T
  have B__law_common := K__law_common.bindsN (ps := ["a", "b"]) fun _ _ _ _ _ _ us hl => match us, hl with | [_, _], _ => rfl
  refine ⟨fd, fn_F F sc__law_is_fraction rfl rfl fun cdv A outer s H E p hr hg => ⟨_, (dss_cons (ds_if (dt_w (dw_or (dt_not (dt_tru (de_isi kit_tuple rfl T.b_isinstance (by decide +kernel) (dn 0) (pe_bltn (v := .ty "tuple") rfl T.b_tuple (by decide +kernel) rfl)))) (dw_or1 (dt_cmp (do_ne hr.units) (de_cb db_len rfl T.b_len (by decide +kernel) (da_cons (dn 0) da_nil)) de_int (nomark _))))) (dss_one (ds_ret de_bl)) dss_nil) (dss_cons (ds_if (dt_cmp (do_ne hr.units) (de_of (dm_lc (te := (tVar 1)) (tt := (tOr (tNot (tTru K (tCB (rIsi K) (tCons (tVar 1) (tCons (tC (.ty "int")) tNil))))) (tTru K (tCB (rIsi K) (tCons (tVar 1) (tCons (tC (.ty "bool")) tNil)))))) (g := (gName 1)) s (own := [("each", 1)]) rfl sc__law_is_fraction.nd (DI.x (di_seq (dn 0))) (blkOk_by (own := [("each", 1)]) (N := ["thing", "each"]) (sc := defScope s__law_is_fraction) (by decide +kernel)) rfl (fun _ _ _ _ _ => (dv_name (i := 1) sc__law_is_fraction.nd rfl (Or.inl rfl))) (fun _ _ _ _ _ => (dts_one (dt_w (dw_or (dt_not (dt_tru (de_isi kit_int rfl T.b_isinstance (by decide +kernel) (dn 1) (pe_bltn (v := .ty "int") rfl T.b_int (by decide +kernel) rfl)))) (dw_or1 (dt_tru (de_isi kit_bool rfl T.b_isinstance (by decide +kernel) (dn 1) (pe_bltn (v := .ty "bool") rfl T.b_bool (by decide +kernel) rfl)))))))) (fun _ _ _ _ _ => (dn 1)))) (de_of (dm_lst da_nil)) (nomark _)) (dss_one (ds_ret de_bl)) dss_nil) (dss_one (ds_ret (de_and (de_cmp do_gt (de_ix do_ix (dn 0) de_int (fun _ _ => rfl)) de_int (nomark _)) (de_one (de_cmp (do_eq hr.units) (de_call G__law_common mkF_ari (hr.mono (by decide)) hg rfl T.g__law_common K__law_common.kp B__law_common pass0 (da_cons (de_ix do_ix (dn 0) de_int (fun _ _ => rfl)) (da_cons (de_ix do_ix (dn 0) de_int (fun _ _ => rfl)) da_nil))) de_int (nomark _))))))))⟩, F⟩
theorem sc__law_row_cut : FnScope ["line", "many"] ["line"] (defScope s__law_row_cut) := ⟨rfl, rfl, rfl, by decide +kernel, rfl, by decide +kernel, by decide +kernel⟩
theorem ok__law_row_cut {P : Program} {w : World} {K : PySem.W.Frag} {mg : Str → Option Value} {base : Heap} (T : Txt K mg) :
    ∃ fd, FnG P w K mg base CX0 2 (He.ga K "_law_row_cut") fd ["line"] (spF K 1 F__law_row_cut) ∧ FunD K "_law_row_cut" "_law_row_cut" (defArgs s__law_row_cut) (defBody s__law_row_cut) (defScope s__law_row_cut) [] [] (He.ga K "_law_row_cut") fd := by
  obtain ⟨fd, F⟩ := T.f__law_row_cut
  obtain ⟨fd__law_is_nought, G__law_is_nought, K__law_is_nought⟩ := ok__law_is_nought (P := P) (w := w) (base := base) T
  have B__law_is_nought := K__law_is_nought.bindsN (ps := ["x"]) fun _ _ _ _ _ _ us hl => match us, hl with | [_], _ => rfl
  refine ⟨fd, fn_F F sc__law_row_cut rfl rfl fun cdv A outer s H E p hr hg => ⟨_, (dss_cons (ds_set (i := 1) sc__law_row_cut.nd rfl (Or.inl rfl) (de_cb db_len rfl T.b_len (by decide +kernel) (da_cons (dn 0) da_nil))) (dss_cons (ds_while PassesOwn.never (dt_w (dw_and (dt_cmp do_gt (dn 1) de_int (nomark _)) (dw_and1 (dt_tru (de_call G__law_is_nought mkF_ari (hr.mono (by decide)) hg rfl T.g__law_is_nought K__law_is_nought.kp B__law_is_nought pass0 (da_cons (de_ix do_ix (dn 0) (de_op do_sub (dn 1) de_int) (fun _ _ => rfl)) da_nil)))))) (dss_one (ds_set (i := 1) sc__law_row_cut.nd rfl (Or.inl rfl) (de_op do_sub (dn 1) de_int)))) (dss_one (ds_ret (de_sl (dn 0) do_none (do_some (dn 1)))))))⟩, F⟩
theorem sc_plus : FnScope ["x", "y"] ["x", "y"] (defScope s_plus) := ⟨rfl, rfl, rfl, by decide +kernel, rfl, by decide +kernel, by decide +kernel⟩
theorem ok_plus {P : Program} {w : World} {K : PySem.W.Frag} {mg : Str → Option Value} {base : Heap} (T : Txt K mg) :
    ∃ fd, FnG P w K mg base CX0 3 (He.ga K "plus") fd ["x", "y"] (spF K 2 F_plus) ∧ FunD K "plus" "plus" (defArgs s_plus) (defBody s_plus) (defScope s_plus) [] [] (He.ga K "plus") fd := by
  obtain ⟨fd, F⟩ := T.f_plus
  obtain ⟨fd_fraction_plus, G_fraction_plus, K_fraction_plus⟩ := ok_fraction_plus (P := P) (w := w) (base := base) T
  have B_fraction_plus := K_fraction_plus.bindsN (ps := ["x", "y"]) fun _ _ _ _ _ _ us hl => match us, hl with | [_, _], _ => rfl
  refine ⟨fd, fn_F F sc_plus rfl rfl fun cdv A outer s H E p hr hg => ⟨_, (dss_one (ds_ret (de_tup (da_cons (de_call G_fraction_plus mkF_ari (hr.mono (by decide)) hg rfl T.g_fraction_plus K_fraction_plus.kp B_fraction_plus pass0 (da_cons (de_ix do_ix (dn 0) de_int (fun _ _ => rfl)) (da_cons (de_ix do_ix (dn 1) de_int (fun _ _ => rfl)) da_nil))) (da_cons (de_call G_fraction_plus mkF_ari (hr.mono (by decide)) hg rfl T.g_fraction_plus K_fraction_plus.kp B_fraction_plus pass0 (da_cons (de_ix do_ix (dn 0) de_int (fun _ _ => rfl)) (da_cons (de_ix do_ix (dn 1) de_int (fun _ _ => rfl)) da_nil))) da_nil)))))⟩, F⟩
theorem sc_less : FnScope ["x", "y"] ["x", "y"] (defScope s_less) := ⟨rfl, rfl, rfl, by decide +kernel, rfl, by decide +kernel, by decide +kernel⟩
theorem ok_less {P : Program} {w : World} {K : PySem.W.Frag} {mg : Str → Option Value} {base : Heap} (T : Txt K mg) :
    ∃ fd, FnG P w K mg base CX0 3 (He.ga K "less") fd ["x", "y"] (spF K 2 F_less) ∧ FunD K "less" "less" (defArgs s_less) (defBody s_less) (defScope s_less) [] [] (He.ga K "less") fd := by
  obtain ⟨fd, F⟩ := T.f_less
  obtain ⟨fd_fraction_less, G_fraction_less, K_fraction_less⟩ := ok_fraction_less (P := P) (w := w) (base := base) T
  have B_fraction_less := K_fraction_less.bindsN (ps := ["x", "y"]) fun _ _ _ _ _ _ us hl => match us, hl with | [_, _], _ => rfl
  refine ⟨fd, fn_F F sc_less rfl rfl fun cdv A outer s H E p hr hg => ⟨_, (dss_one (ds_ret (de_tup (da_cons (de_call G_fraction_less mkF_ari (hr.mono (by decide)) hg rfl T.g_fraction_less K_fraction_less.kp B_fraction_less pass0 (da_cons (de_ix do_ix (dn 0) de_int (fun _ _ => rfl)) (da_cons (de_ix do_ix (dn 1) de_int (fun _ _ => rfl)) da_nil))) (da_cons (de_call G_fraction_less mkF_ari (hr.mono (by decide)) hg rfl T.g_fraction_less K_fraction_less.kp B_fraction_less pass0 (da_cons (de_ix do_ix (dn 0) de_int (fun _ _ => rfl)) (da_cons (de_ix do_ix (dn 1) de_int (fun _ _ => rfl)) da_nil))) da_nil)))))⟩, F⟩
theorem sc_times : FnScope ["x", "y", "a", "p", "b", "q", "c", "r", "d", "s"] ["x", "y"] (defScope s_times) := ⟨rfl, rfl, rfl, by decide +kernel, rfl, by decide +kernel, by decide +kernel⟩
theorem ok_times {P : Program} {w : World} {K : PySem.W.Frag} {mg : Str → Option Value} {base : Heap} (T : Txt K mg) :
    ∃ fd, FnG P w K mg base CX0 3 (He.ga K "times") fd ["x", "y"] (spF K 2 F_times) ∧ FunD K "times" "times" (defArgs s_times) (defBody s_times) (defScope s_times) [] [] (He.ga K "times") fd := by
  obtain ⟨fd, F⟩ := T.f_times
  obtain ⟨fd_number_from, G_number_from, K_number_from⟩ := ok_number_from (P := P) (w := w) (base := base) T
  have B_number_from := K_number_from.bindsN (ps := ["x", "y", "m"]) fun _ _ _ _ _ _ us hl => match us, hl with | [_, _, _], _ => rfl
  refine ⟨fd, fn_F F sc_times rfl rfl fun cdv A outer s H E p hr hg => ⟨_, (dss_cons (ds_asg (dn 0) (dv_tup rfl (dvs_cons (dv_tup rfl (dvs_cons (dv_name (i := 2) sc_times.nd rfl (Or.inl rfl)) (dvs_cons (dv_name (i := 3) sc_times.nd rfl (Or.inl rfl)) dvs_nil))) (dvs_cons (dv_tup rfl (dvs_cons (dv_name (i := 4) sc_times.nd rfl (Or.inl rfl)) (dvs_cons (dv_name (i := 5) sc_times.nd rfl (Or.inl rfl)) dvs_nil))) dvs_nil)))) (dss_cons (ds_asg (dn 1) (dv_tup rfl (dvs_cons (dv_tup rfl (dvs_cons (dv_name (i := 6) sc_times.nd rfl (Or.inl rfl)) (dvs_cons (dv_name (i := 7) sc_times.nd rfl (Or.inl rfl)) dvs_nil))) (dvs_cons (dv_tup rfl (dvs_cons (dv_name (i := 8) sc_times.nd rfl (Or.inl rfl)) (dvs_cons (dv_name (i := 9) sc_times.nd rfl (Or.inl rfl)) dvs_nil))) dvs_nil)))) (dss_cons (ds_asg (de_tup (da_cons (de_op do_mul (dn 2) (dn 5)) (da_cons (de_op do_mul (dn 4) (dn 3)) (da_cons (de_op do_mul (dn 6) (dn 9)) (da_cons (de_op do_mul (dn 8) (dn 7)) da_nil))))) (dv_tup rfl (dvs_cons (dv_name (i := 2) sc_times.nd rfl (Or.inl rfl)) (dvs_cons (dv_name (i := 4) sc_times.nd rfl (Or.inl rfl)) (dvs_cons (dv_name (i := 6) sc_times.nd rfl (Or.inl rfl)) (dvs_cons (dv_name (i := 8) sc_times.nd rfl (Or.inl rfl)) dvs_nil)))))) (dss_one (ds_ret (de_call G_number_from mkF_ari (hr.mono (by decide)) hg rfl T.g_number_from K_number_from.kp B_number_from pass0 (da_cons (de_op do_sub (de_op do_mul (dn 2) (dn 6)) (de_op do_mul (dn 4) (dn 8))) (da_cons (de_op do_add (de_op do_mul (dn 2) (dn 8)) (de_op do_mul (dn 4) (dn 6))) (da_cons (de_op do_mul (de_op do_mul (de_op do_mul (dn 3) (dn 5)) (dn 7)) (dn 9)) da_nil)))))))))⟩, F⟩
theorem sc_scaled : FnScope ["x", "fraction"] ["x", "fraction"] (defScope s_scaled) := ⟨rfl, rfl, rfl, by decide +kernel, rfl, by decide +kernel, by decide +kernel⟩
theorem ok_scaled {P : Program} {w : World} {K : PySem.W.Frag} {mg : Str → Option Value} {base : Heap} (T : Txt K mg) :
    ∃ fd, FnG P w K mg base CX0 3 (He.ga K "scaled") fd ["x", "fraction"] (spF K 2 F_scaled) ∧ FunD K "scaled" "scaled" (defArgs s_scaled) (defBody s_scaled) (defScope s_scaled) [] [] (He.ga K "scaled") fd := by
  obtain ⟨fd, F⟩ := T.f_scaled
  obtain ⟨fd_fraction_times, G_fraction_times, K_fraction_times⟩ := ok_fraction_times (P := P) (w := w) (base := base) T
  have B_fraction_times := K_fraction_times.bindsN (ps := ["x", "y"]) fun _ _ _ _ _ _ us hl => match us, hl with | [_, _], _ => rfl
  refine ⟨fd, fn_F F sc_scaled rfl rfl fun cdv A outer s H E p hr hg => ⟨_, (dss_one (ds_ret (de_tup (da_cons (de_call G_fraction_times mkF_ari (hr.mono (by decide)) hg rfl T.g_fraction_times K_fraction_times.kp B_fraction_times pass0 (da_cons (de_ix do_ix (dn 0) de_int (fun _ _ => rfl)) (da_cons (dn 1) da_nil))) (da_cons (de_call G_fraction_times mkF_ari (hr.mono (by decide)) hg rfl T.g_fraction_times K_fraction_times.kp B_fraction_times pass0 (da_cons (de_ix do_ix (dn 0) de_int (fun _ _ => rfl)) (da_cons (dn 1) da_nil))) da_nil)))))⟩, F⟩
theorem sc_is_number : FnScope ["value"] ["value"] (defScope s_is_number) := ⟨rfl, rfl, rfl, by decide +kernel, rfl, by decide +kernel, by decide +kernel⟩
theorem ok_is_number {P : Program} {w : World} {K : PySem.W.Frag} {mg : Str → Option Value} {base : Heap} (T : Txt K mg) :
    ∃ fd, FnG P w K mg base CX0 3 (He.ga K "is_number") fd ["value"] (spF K 1 F_is_number) ∧ FunD K "is_number" "is_number" (defArgs s_is_number) (defBody s_is_number) (defScope s_is_number) [] [] (He.ga K "is_number") fd := by
  obtain ⟨fd, F⟩ := T.f_is_number
  obtain ⟨fd_is_fraction, G_is_fraction, K_is_fraction⟩ := ok_is_fraction (P := P) (w := w) (base := base) T
  have B_is_fraction := K_is_fraction.bindsN (ps := ["value"]) fun _ _ _ _ _ _ us hl => match us, hl with | [_], _ => rfl
  refine ⟨fd, fn_F F sc_is_number rfl rfl fun cdv A outer s H E p hr hg => ⟨_, (dss_one (ds_ret (de_and (de_isi kit_tuple rfl T.b_isinstance (by decide +kernel) (dn 0) (pe_bltn (v := .ty "tuple") rfl T.b_tuple (by decide +kernel) rfl)) (de_and (de_cmp (do_eq hr.units) (de_cb db_len rfl T.b_len (by decide +kernel) (da_cons (dn 0) da_nil)) de_int (nomark _)) (de_and (de_call G_is_fraction mkF_ari (hr.mono (by decide)) hg rfl T.g_is_fraction K_is_fraction.kp B_is_fraction pass0 (da_cons (de_ix do_ix (dn 0) de_int (fun _ _ => rfl)) da_nil)) (de_one (de_call G_is_fraction mkF_ari (hr.mono (by decide)) hg rfl T.g_is_fraction K_is_fraction.kp B_is_fraction pass0 (da_cons (de_ix do_ix (dn 0) de_int (fun _ _ => rfl)) da_nil))))))))⟩, F⟩
theorem sc_is_bound : FnScope ["value"] ["value"] (defScope s_is_bound) := ⟨rfl, rfl, rfl, by decide +kernel, rfl, by decide +kernel, by decide +kernel⟩
theorem ok_is_bound {P : Program} {w : World} {K : PySem.W.Frag} {mg : Str → Option Value} {base : Heap} (T : Txt K mg) :
    ∃ fd, FnG P w K mg base CX0 3 (He.ga K "is_bound") fd ["value"] (spF K 1 F_is_bound) ∧ FunD K "is_bound" "is_bound" (defArgs s_is_bound) (defBody s_is_bound) (defScope s_is_bound) [] [] (He.ga K "is_bound") fd := by
  obtain ⟨fd, F⟩ := T.f_is_bound
  obtain ⟨fd_is_fraction, G_is_fraction, K_is_fraction⟩ := ok_is_fraction (P := P) (w := w) (base := base) T
  have B_is_fraction := K_is_fraction.bindsN (ps := ["value"]) fun _ _ _ _ _ _ us hl => match us, hl with | [_], _ => rfl
  refine ⟨fd, fn_F F sc_is_bound rfl rfl fun cdv A outer s H E p hr hg => ⟨_, (dss_one (ds_ret (de_and (de_call G_is_fraction mkF_ari (hr.mono (by decide)) hg rfl T.g_is_fraction K_is_fraction.kp B_is_fraction pass0 (da_cons (dn 0) da_nil)) (de_one (de_cmp do_gt (de_ix do_ix (dn 0) de_int (fun _ _ => rfl)) de_int (nomark _))))))⟩, F⟩
theorem sc__law_less : FnScope ["x", "y"] ["x", "y"] (defScope s__law_less) := ⟨rfl, rfl, rfl, by decide +kernel, rfl, by decide +kernel, by decide +kernel⟩
theorem ok__law_less {P : Program} {w : World} {K : PySem.W.Frag} {mg : Str → Option Value} {base : Heap} (T : Txt K mg) :
    ∃ fd, FnG P w K mg base CX0 3 (He.ga K "_law_less") fd ["x", "y"] (spF K 2 F__law_less_2) ∧ FunD K "_law_less" "_law_less" (defArgs s__law_less) (defBody s__law_less) (defScope s__law_less) [] [] (He.ga K "_law_less") fd := by
  obtain ⟨fd, F⟩ := T.f__law_less
  obtain ⟨fd__law_cut, G__law_cut, K__law_cut⟩ := ok__law_cut (P := P) (w := w) (base := base) T
  have B__law_cut := K__law_cut.bindsN (ps := ["a", "b", "d"]) fun _ _ _ _ _ _ us hl => match us, hl with | [_, _, _], _ => rfl
  refine ⟨fd, fn_F F sc__law_less rfl rfl fun cdv A outer s H E p hr hg => ⟨_, (dss_one (ds_ret (de_call G__law_cut mkF_ari (hr.mono (by decide)) hg rfl T.g__law_cut K__law_cut.kp B__law_cut pass0 (da_cons (de_op do_sub (de_op do_mul (de_ix do_ix (dn 0) de_int (fun _ _ => rfl)) (de_ix do_ix (dn 1) de_int (fun _ _ => rfl))) (de_op do_mul (de_ix do_ix (dn 1) de_int (fun _ _ => rfl)) (de_ix do_ix (dn 0) de_int (fun _ _ => rfl)))) (da_cons (de_op do_sub (de_op do_mul (de_ix do_ix (dn 0) de_int (fun _ _ => rfl)) (de_ix do_ix (dn 1) de_int (fun _ _ => rfl))) (de_op do_mul (de_ix do_ix (dn 1) de_int (fun _ _ => rfl)) (de_ix do_ix (dn 0) de_int (fun _ _ => rfl)))) (da_cons (de_op do_mul (de_ix do_ix (dn 0) de_int (fun _ _ => rfl)) (de_ix do_ix (dn 1) de_int (fun _ _ => rfl))) da_nil))))))⟩, F⟩
theorem sc__law_times : FnScope ["x", "y"] ["x", "y"] (defScope s__law_times) := ⟨rfl, rfl, rfl, by decide +kernel, rfl, by decide +kernel, by decide +kernel⟩
theorem ok__law_times {P : Program} {w : World} {K : PySem.W.Frag} {mg : Str → Option Value} {base : Heap} (T : Txt K mg) :
    ∃ fd, FnG P w K mg base CX0 3 (He.ga K "_law_times") fd ["x", "y"] (spF K 2 F__law_times_2) ∧ FunD K "_law_times" "_law_times" (defArgs s__law_times) (defBody s__law_times) (defScope s__law_times) [] [] (He.ga K "_law_times") fd := by
  obtain ⟨fd, F⟩ := T.f__law_times
  obtain ⟨fd__law_cut, G__law_cut, K__law_cut⟩ := ok__law_cut (P := P) (w := w) (base := base) T
  have B__law_cut := K__law_cut.bindsN (ps := ["a", "b", "d"]) fun _ _ _ _ _ _ us hl => match us, hl with | [_, _, _], _ => rfl
  refine ⟨fd, fn_F F sc__law_times rfl rfl fun cdv A outer s H E p hr hg => ⟨_, (dss_one (ds_ret (de_call G__law_cut mkF_ari (hr.mono (by decide)) hg rfl T.g__law_cut K__law_cut.kp B__law_cut pass0 (da_cons (de_op do_sub (de_op do_mul (de_ix do_ix (dn 0) de_int (fun _ _ => rfl)) (de_ix do_ix (dn 1) de_int (fun _ _ => rfl))) (de_op do_mul (de_ix do_ix (dn 0) de_int (fun _ _ => rfl)) (de_ix do_ix (dn 1) de_int (fun _ _ => rfl)))) (da_cons (de_op do_add (de_op do_mul (de_ix do_ix (dn 0) de_int (fun _ _ => rfl)) (de_ix do_ix (dn 1) de_int (fun _ _ => rfl))) (de_op do_mul (de_ix do_ix (dn 0) de_int (fun _ _ => rfl)) (de_ix do_ix (dn 1) de_int (fun _ _ => rfl)))) (da_cons (de_op do_mul (de_ix do_ix (dn 0) de_int (fun _ _ => rfl)) (de_ix do_ix (dn 1) de_int (fun _ _ => rfl))) da_nil))))))⟩, F⟩
theorem sc__law_over : FnScope ["x", "y", "far"] ["x", "y"] (defScope s__law_over) := ⟨rfl, rfl, rfl, by decide +kernel, rfl, by decide +kernel, by decide +kernel⟩
theorem ok__law_over {P : Program} {w : World} {K : PySem.W.Frag} {mg : Str → Option Value} {base : Heap} (T : Txt K mg) :
    ∃ fd, FnG P w K mg base CX0 3 (He.ga K "_law_over") fd ["x", "y"] (spF K 2 F__law_over_2) ∧ FunD K "_law_over" "_law_over" (defArgs s__law_over) (defBody s__law_over) (defScope s__law_over) [] [] (He.ga K "_law_over") fd := by
  obtain ⟨fd, F⟩ := T.f__law_over
  obtain ⟨fd__law_cut, G__law_cut, K__law_cut⟩ := ok__law_cut (P := P) (w := w) (base := base) T
  have B__law_cut := K__law_cut.bindsN (ps := ["a", "b", "d"]) fun _ _ _ _ _ _ us hl => match us, hl with | [_, _, _], _ => rfl
  refine ⟨fd, fn_F F sc__law_over rfl rfl fun cdv A outer s H E p hr hg => ⟨_, (dss_cons (ds_set (i := 2) sc__law_over.nd rfl (Or.inl rfl) (de_op do_add (de_op do_mul (de_ix do_ix (dn 1) de_int (fun _ _ => rfl)) (de_ix do_ix (dn 1) de_int (fun _ _ => rfl))) (de_op do_mul (de_ix do_ix (dn 1) de_int (fun _ _ => rfl)) (de_ix do_ix (dn 1) de_int (fun _ _ => rfl))))) (dss_one (ds_ret (de_call G__law_cut mkF_ari (hr.mono (by decide)) hg rfl T.g__law_cut K__law_cut.kp B__law_cut pass0 (da_cons (de_op do_mul (de_op do_add (de_op do_mul (de_ix do_ix (dn 0) de_int (fun _ _ => rfl)) (de_ix do_ix (dn 1) de_int (fun _ _ => rfl))) (de_op do_mul (de_ix do_ix (dn 0) de_int (fun _ _ => rfl)) (de_ix do_ix (dn 1) de_int (fun _ _ => rfl)))) (de_ix do_ix (dn 1) de_int (fun _ _ => rfl))) (da_cons (de_op do_mul (de_op do_sub (de_op do_mul (de_ix do_ix (dn 0) de_int (fun _ _ => rfl)) (de_ix do_ix (dn 1) de_int (fun _ _ => rfl))) (de_op do_mul (de_ix do_ix (dn 0) de_int (fun _ _ => rfl)) (de_ix do_ix (dn 1) de_int (fun _ _ => rfl)))) (de_ix do_ix (dn 1) de_int (fun _ _ => rfl))) (da_cons (de_op do_mul (de_ix do_ix (dn 0) de_int (fun _ _ => rfl)) (dn 2)) da_nil)))))))⟩, F⟩
theorem sc__law_size : FnScope ["x"] ["x"] (defScope s__law_size) := ⟨rfl, rfl, rfl, by decide +kernel, rfl, by decide +kernel, by decide +kernel⟩
theorem ok__law_size {P : Program} {w : World} {K : PySem.W.Frag} {mg : Str → Option Value} {base : Heap} (T : Txt K mg) :
    ∃ fd, FnG P w K mg base CX0 3 (He.ga K "_law_size") fd ["x"] (spF K 1 F__law_size_2) ∧ FunD K "_law_size" "_law_size" (defArgs s__law_size) (defBody s__law_size) (defScope s__law_size) [] [] (He.ga K "_law_size") fd := by
  obtain ⟨fd, F⟩ := T.f__law_size
  obtain ⟨fd__law_cut, G__law_cut, K__law_cut⟩ := ok__law_cut (P := P) (w := w) (base := base) T
  have B__law_cut := K__law_cut.bindsN (ps := ["a", "b", "d"]) fun _ _ _ _ _ _ us hl => match us, hl with | [_, _, _], _ => rfl
  refine ⟨fd, fn_F F sc__law_size rfl rfl fun cdv A outer s H E p hr hg => ⟨_, (dss_one (ds_ret (de_call G__law_cut mkF_ari (hr.mono (by decide)) hg rfl T.g__law_cut K__law_cut.kp B__law_cut pass0 (da_cons (de_op do_add (de_op do_mul (de_ix do_ix (dn 0) de_int (fun _ _ => rfl)) (de_ix do_ix (dn 0) de_int (fun _ _ => rfl))) (de_op do_mul (de_ix do_ix (dn 0) de_int (fun _ _ => rfl)) (de_ix do_ix (dn 0) de_int (fun _ _ => rfl)))) (da_cons de_int (da_cons (de_op do_mul (de_ix do_ix (dn 0) de_int (fun _ _ => rfl)) (de_ix do_ix (dn 0) de_int (fun _ _ => rfl))) da_nil))))))⟩, F⟩
theorem sc__law_number : FnScope ["x"] ["x"] (defScope s__law_number) := ⟨rfl, rfl, rfl, by decide +kernel, rfl, by decide +kernel, by decide +kernel⟩
theorem ok__law_number {P : Program} {w : World} {K : PySem.W.Frag} {mg : Str → Option Value} {base : Heap} (T : Txt K mg) :
    ∃ fd, FnG P w K mg base CX0 3 (He.ga K "_law_number") fd ["x"] (spF K 1 F__law_number_2) ∧ FunD K "_law_number" "_law_number" (defArgs s__law_number) (defBody s__law_number) (defScope s__law_number) [] [] (He.ga K "_law_number") fd := by
  obtain ⟨fd, F⟩ := T.f__law_number
  obtain ⟨fd__law_fraction, G__law_fraction, K__law_fraction⟩ := ok__law_fraction (P := P) (w := w) (base := base) T
  have B__law_fraction := K__law_fraction.bindsN (ps := ["n", "d"]) fun _ _ _ _ _ _ us hl => match us, hl with | [_, _], _ => rfl
  refine ⟨fd, fn_F F sc__law_number rfl rfl fun cdv A outer s H E p hr hg => ⟨_, (dss_one (ds_ret (de_tup (da_cons (de_call G__law_fraction mkF_ari (hr.mono (by decide)) hg rfl T.g__law_fraction K__law_fraction.kp B__law_fraction pass0 (da_cons (de_ix do_ix (dn 0) de_int (fun _ _ => rfl)) (da_cons (de_ix do_ix (dn 0) de_int (fun _ _ => rfl)) da_nil))) (da_cons (de_call G__law_fraction mkF_ari (hr.mono (by decide)) hg rfl T.g__law_fraction K__law_fraction.kp B__law_fraction pass0 (da_cons (de_ix do_ix (dn 0) de_int (fun _ _ => rfl)) (da_cons (de_ix do_ix (dn 0) de_int (fun _ _ => rfl)) da_nil))) da_nil)))))⟩, F⟩
theorem sc__law_is_number : FnScope ["thing"] ["thing"] (defScope s__law_is_number) := ⟨rfl, rfl, rfl, by decide +kernel, rfl, by decide +kernel, by decide +kernel⟩
theorem ok__law_is_number {P : Program} {w : World} {K : PySem.W.Frag} {mg : Str → Option Value} {base : Heap} (T : Txt K mg) :
    ∃ fd, FnG P w K mg base CX0 3 (He.ga K "_law_is_number") fd ["thing"] (spF K 1 F__law_is_number_2) ∧ FunD K "_law_is_number" "_law_is_number" (defArgs s__law_is_number) (defBody s__law_is_number) (defScope s__law_is_number) [] [] (He.ga K "_law_is_number") fd := by
  obtain ⟨fd, F⟩ := T.f__law_is_number
  obtain ⟨fd__law_is_fraction, G__law_is_fraction, K__law_is_fraction⟩ := ok__law_is_fraction (P := P) (w := w) (base := base) T
  have B__law_is_fraction := K__law_is_fraction.bindsN (ps := ["thing"]) fun _ _ _ _ _ _ us hl => match us, hl with | [_], _ => rfl
  refine ⟨fd, fn_F F sc__law_is_number rfl rfl fun cdv A outer s H E p hr hg => ⟨_, (dss_cons (ds_if (dt_w (dw_or (dt_not (dt_tru (de_isi kit_tuple rfl T.b_isinstance (by decide +kernel) (dn 0) (pe_bltn (v := .ty "tuple") rfl T.b_tuple (by decide +kernel) rfl)))) (dw_or1 (dt_cmp (do_ne hr.units) (de_cb db_len rfl T.b_len (by decide +kernel) (da_cons (dn 0) da_nil)) de_int (nomark _))))) (dss_one (ds_ret de_bl)) dss_nil) (dss_one (ds_ret (de_and (de_call G__law_is_fraction mkF_ari (hr.mono (by decide)) hg rfl T.g__law_is_fraction K__law_is_fraction.kp B__law_is_fraction pass0 (da_cons (de_ix do_ix (dn 0) de_int (fun _ _ => rfl)) da_nil)) (de_one (de_call G__law_is_fraction mkF_ari (hr.mono (by decide)) hg rfl T.g__law_is_fraction K__law_is_fraction.kp B__law_is_fraction pass0 (da_cons (de_ix do_ix (dn 0) de_int (fun _ _ => rfl)) da_nil)))))))⟩, F⟩
theorem sc__law_read : FnScope ["told"] ["told"] (defScope s__law_read) := ⟨rfl, rfl, rfl, by decide +kernel, rfl, by decide +kernel, by decide +kernel⟩
theorem ok__law_read {P : Program} {w : World} {K : PySem.W.Frag} {mg : Str → Option Value} {base : Heap} (T : Txt K mg) :
    ∃ fd, FnG P w K mg base CX0 3 (He.ga K "_law_read") fd ["told"] (spF K 1 F__law_read_2) ∧ FunD K "_law_read" "_law_read" (defArgs s__law_read) (defBody s__law_read) (defScope s__law_read) [] [] (He.ga K "_law_read") fd := by
  obtain ⟨fd, F⟩ := T.f__law_read
  obtain ⟨fd__law_cut, G__law_cut, K__law_cut⟩ := ok__law_cut (P := P) (w := w) (base := base) T
  have B__law_cut := K__law_cut.bindsN (ps := ["a", "b", "d"]) fun _ _ _ _ _ _ us hl => match us, hl with | [_, _, _], _ => rfl
  refine ⟨fd, fn_F F sc__law_read rfl rfl fun cdv A outer s H E p hr hg => ⟨_, (dss_one (ds_ret (de_call G__law_cut mkF_ari (hr.mono (by decide)) hg rfl T.g__law_cut K__law_cut.kp B__law_cut pass0 (da_cons (de_op do_mul (de_ix do_ix (de_ix do_ix (dn 0) de_int (fun _ _ => rfl)) de_int (fun _ _ => rfl)) (de_ix do_ix (de_ix do_ix (dn 0) de_int (fun _ _ => rfl)) de_int (fun _ _ => rfl))) (da_cons (de_op do_mul (de_ix do_ix (de_ix do_ix (dn 0) de_int (fun _ _ => rfl)) de_int (fun _ _ => rfl)) (de_ix do_ix (de_ix do_ix (dn 0) de_int (fun _ _ => rfl)) de_int (fun _ _ => rfl))) (da_cons (de_op do_mul (de_ix do_ix (de_ix do_ix (dn 0) de_int (fun _ _ => rfl)) de_int (fun _ _ => rfl)) (de_ix do_ix (de_ix do_ix (dn 0) de_int (fun _ _ => rfl)) de_int (fun _ _ => rfl))) da_nil))))))⟩, F⟩
theorem sc__law_gauss : FnScope ["pot", "most", "d", "a", "b"] ["pot"] (defScope s__law_gauss) := ⟨rfl, rfl, rfl, by decide +kernel, rfl, by decide +kernel, by decide +kernel⟩
theorem ok__law_gauss {P : Program} {w : World} {K : PySem.W.Frag} {mg : Str → Option Value} {base : Heap} (T : Txt K mg) :
    ∃ fd, FnG P w K mg base CX0 3 (He.ga K "_law_gauss") fd ["pot"] (spQ K 1 F__law_gauss) ∧ FunD K "_law_gauss" "_law_gauss" (defArgs s__law_gauss) (defBody s__law_gauss) (defScope s__law_gauss) [] [] (He.ga K "_law_gauss") fd := by
  obtain ⟨fd, F⟩ := T.f__law_gauss
  obtain ⟨fd__law_cut, G__law_cut, K__law_cut⟩ := ok__law_cut (P := P) (w := w) (base := base) T
  obtain ⟨fd__law_pick, G__law_pick, K__law_pick⟩ := ok__law_pick (P := P) (w := w) (base := base) T
  obtain ⟨fd__law_draw, G__law_draw, K__law_draw⟩ := ok__law_draw (P := P) (w := w) (base := base) T
  have B__law_cut := K__law_cut.bindsN (ps := ["a", "b", "d"]) fun _ _ _ _ _ _ us hl => match us, hl with | [_, _, _], _ => rfl
  have B__law_pick := K__law_pick.bindsN (ps := ["pot", "some"]) fun _ _ _ _ _ _ us hl => match us, hl with | [_, _], _ => rfl
  have B__law_draw := K__law_draw.bindsN (ps := ["pot", "many"]) fun _ _ _ _ _ _ us hl => match us, hl with | [_, _], _ => rfl
  refine ⟨fd, fn_Q F sc__law_gauss rfl rfl fun cdv A outer s H E a hr hg => ⟨_, (dss_cons (ds_par (i := 1) (j := 2) rfl sc__law_gauss.nd rfl rfl (by decide) rfl rfl (da_cons (de_if (dt_cmp (do_eq hr.units) (de_callQ G__law_draw mkQ_ari (hr.mono (by decide)) hg rfl T.g__law_draw K__law_draw.kp B__law_draw pass0 (pv 0) (da_cons de_int da_nil)) de_int (nomark _)) (de_op do_pow de_int de_int) de_int) (da_cons (de_callQ G__law_pick mkQ_ari (hr.mono (by decide)) hg rfl T.g__law_pick K__law_pick.kp B__law_pick pass0 (pv 0) (da_cons (de_tup (da_cons de_int (da_cons de_int (da_cons de_int (da_cons de_int (da_cons de_int (da_cons de_int (da_cons de_int da_nil)))))))) da_nil)) da_nil)) rfl) (dss_cons (ds_set (i := 3) sc__law_gauss.nd rfl (Or.inl rfl) (de_op do_sub (de_callQ G__law_draw mkQ_ari (hr.mono (by decide)) hg rfl T.g__law_draw K__law_draw.kp B__law_draw pass0 (pv 0) (da_cons (de_op do_add (de_op do_mul de_int (dn 1)) de_int) da_nil)) (dn 1))) (dss_cons (ds_set (i := 4) sc__law_gauss.nd rfl (Or.inl rfl) (de_if (dt_cmp do_gt (de_callQ G__law_draw mkQ_ari (hr.mono (by decide)) hg rfl T.g__law_draw K__law_draw.kp B__law_draw pass0 (pv 0) (da_cons de_int da_nil)) de_int (nomark _)) (de_op do_sub (de_callQ G__law_draw mkQ_ari (hr.mono (by decide)) hg rfl T.g__law_draw K__law_draw.kp B__law_draw pass0 (pv 0) (da_cons (de_op do_add (de_op do_mul de_int (dn 1)) de_int) da_nil)) (dn 1)) de_int)) (dss_one (ds_ret (de_call G__law_cut mkF_ari (hr.mono (by decide)) hg rfl T.g__law_cut K__law_cut.kp B__law_cut pass0 (da_cons (dn 3) (da_cons (dn 4) (da_cons (dn 2) da_nil)))))))))⟩, F⟩
theorem sc__law_place : FnScope ["pot", "d", "b", "a"] ["pot"] (defScope s__law_place) := ⟨rfl, rfl, rfl, by decide +kernel, rfl, by decide +kernel, by decide +kernel⟩
theorem ok__law_place {P : Program} {w : World} {K : PySem.W.Frag} {mg : Str → Option Value} {base : Heap} (T : Txt K mg) :
    ∃ fd, FnG P w K mg base CX0 3 (He.ga K "_law_place") fd ["pot"] (spQ K 1 F__law_place_2) ∧ FunD K "_law_place" "_law_place" (defArgs s__law_place) (defBody s__law_place) (defScope s__law_place) [] [] (He.ga K "_law_place") fd := by
  obtain ⟨fd, F⟩ := T.f__law_place
  obtain ⟨fd__law_cut, G__law_cut, K__law_cut⟩ := ok__law_cut (P := P) (w := w) (base := base) T
  obtain ⟨fd__law_pick, G__law_pick, K__law_pick⟩ := ok__law_pick (P := P) (w := w) (base := base) T
  obtain ⟨fd__law_draw, G__law_draw, K__law_draw⟩ := ok__law_draw (P := P) (w := w) (base := base) T
  have B__law_cut := K__law_cut.bindsN (ps := ["a", "b", "d"]) fun _ _ _ _ _ _ us hl => match us, hl with | [_, _, _], _ => rfl
  have B__law_pick := K__law_pick.bindsN (ps := ["pot", "some"]) fun _ _ _ _ _ _ us hl => match us, hl with | [_, _], _ => rfl
  have B__law_draw := K__law_draw.bindsN (ps := ["pot", "many"]) fun _ _ _ _ _ _ us hl => match us, hl with | [_, _], _ => rfl
  refine ⟨fd, fn_Q F sc__law_place rfl rfl fun cdv A outer s H E a hr hg => ⟨_, (dss_cons (ds_par (i := 1) (j := 2) rfl sc__law_place.nd rfl rfl (by decide) rfl rfl (da_cons (de_callQ G__law_pick mkQ_ari (hr.mono (by decide)) hg rfl T.g__law_pick K__law_pick.kp B__law_pick pass0 (pv 0) (da_cons (de_tup (da_cons de_int (da_cons de_int (da_cons de_int (da_cons de_int (da_cons de_int da_nil)))))) da_nil)) (da_cons de_int da_nil)) rfl) (dss_cons (ds_set (i := 3) sc__law_place.nd rfl (Or.inl rfl) (de_op do_add (de_op do_sub (de_callQ G__law_draw mkQ_ari (hr.mono (by decide)) hg rfl T.g__law_draw K__law_draw.kp B__law_draw pass0 (pv 0) (da_cons (de_op do_sub (de_op do_mul de_int (dn 1)) de_int) da_nil)) (dn 1)) de_int)) (dss_cons (ds_if (dt_cmp (do_eq hr.units) (de_callQ G__law_draw mkQ_ari (hr.mono (by decide)) hg rfl T.g__law_draw K__law_draw.kp B__law_draw pass0 (pv 0) (da_cons de_int da_nil)) de_int (nomark _)) (dss_one (ds_set (i := 2) sc__law_place.nd rfl (Or.inl rfl) (de_op do_add (de_op do_sub (de_callQ G__law_draw mkQ_ari (hr.mono (by decide)) hg rfl T.g__law_draw K__law_draw.kp B__law_draw pass0 (pv 0) (da_cons (de_op do_sub (de_op do_mul de_int (dn 1)) de_int) da_nil)) (dn 1)) de_int))) dss_nil) (dss_one (ds_ret (de_call G__law_cut mkF_ari (hr.mono (by decide)) hg rfl T.g__law_cut K__law_cut.kp B__law_cut pass0 (da_cons (dn 3) (da_cons (dn 2) (da_cons (de_if (dt_cmp do_lt (de_op do_add (de_op do_mul (dn 3) (dn 3)) (de_op do_mul (dn 2) (dn 2))) (de_op do_mul (dn 1) (dn 1)) (nomark _)) (dn 1) (de_op do_mul de_int (dn 1))) da_nil)))))))))⟩, F⟩
theorem sc__law_bound : FnScope ["pot"] ["pot"] (defScope s__law_bound) := ⟨rfl, rfl, rfl, by decide +kernel, rfl, by decide +kernel, by decide +kernel⟩
theorem ok__law_bound {P : Program} {w : World} {K : PySem.W.Frag} {mg : Str → Option Value} {base : Heap} (T : Txt K mg) :
    ∃ fd, FnG P w K mg base CX0 3 (He.ga K "_law_bound") fd ["pot"] (spQ K 1 F__law_bound) ∧ FunD K "_law_bound" "_law_bound" (defArgs s__law_bound) (defBody s__law_bound) (defScope s__law_bound) [] [] (He.ga K "_law_bound") fd := by
  obtain ⟨fd, F⟩ := T.f__law_bound
  obtain ⟨fd__law_pick, G__law_pick, K__law_pick⟩ := ok__law_pick (P := P) (w := w) (base := base) T
  obtain ⟨fd__law_draw, G__law_draw, K__law_draw⟩ := ok__law_draw (P := P) (w := w) (base := base) T
  obtain ⟨fd__law_fraction, G__law_fraction, K__law_fraction⟩ := ok__law_fraction (P := P) (w := w) (base := base) T
  have B__law_pick := K__law_pick.bindsN (ps := ["pot", "some"]) fun _ _ _ _ _ _ us hl => match us, hl with | [_, _], _ => rfl
  have B__law_draw := K__law_draw.bindsN (ps := ["pot", "many"]) fun _ _ _ _ _ _ us hl => match us, hl with | [_, _], _ => rfl
  have B__law_fraction := K__law_fraction.bindsN (ps := ["n", "d"]) fun _ _ _ _ _ _ us hl => match us, hl with | [_, _], _ => rfl
  refine ⟨fd, fn_Q F sc__law_bound rfl rfl fun cdv A outer s H E a hr hg => ⟨_, (dss_cons (ds_if (dt_cmp (do_eq hr.units) (de_callQ G__law_draw mkQ_ari (hr.mono (by decide)) hg rfl T.g__law_draw K__law_draw.kp B__law_draw pass0 (pv 0) (da_cons de_int da_nil)) de_int (nomark _)) (dss_one (ds_ret (de_call G__law_fraction mkF_ari (hr.mono (by decide)) hg rfl T.g__law_fraction K__law_fraction.kp B__law_fraction pass0 (da_cons (de_op do_add de_int (de_callQ G__law_draw mkQ_ari (hr.mono (by decide)) hg rfl T.g__law_draw K__law_draw.kp B__law_draw pass0 (pv 0) (da_cons de_int da_nil))) (da_cons (de_op do_add de_int (de_callQ G__law_draw mkQ_ari (hr.mono (by decide)) hg rfl T.g__law_draw K__law_draw.kp B__law_draw pass0 (pv 0) (da_cons de_int da_nil))) da_nil))))) dss_nil) (dss_one (ds_ret (de_callQ G__law_pick mkQ_ari (hr.mono (by decide)) hg rfl T.g__law_pick K__law_pick.kp B__law_pick pass0 (pv 0) (da_cons (de_tup (da_cons (de_tup (da_cons de_int (da_cons de_int da_nil))) (da_cons (de_tup (da_cons de_int (da_cons de_int da_nil))) (da_cons (de_tup (da_cons de_int (da_cons de_int da_nil))) (da_cons (de_tup (da_cons de_int (da_cons de_int da_nil))) (da_cons (de_tup (da_cons de_int (da_cons de_int da_nil))) (da_cons (de_tup (da_cons de_int (da_cons de_int da_nil))) (da_cons (de_tup (da_cons de_int (da_cons de_int da_nil))) (da_cons (de_tup (da_cons de_int (da_cons de_int da_nil))) da_nil))))))))) da_nil)))))⟩, F⟩
theorem sc__law_unit : FnScope ["pot", "m", "n"] ["pot"] (defScope s__law_unit) := ⟨rfl, rfl, rfl, by decide +kernel, rfl, by decide +kernel, by decide +kernel⟩
theorem ok__law_unit {P : Program} {w : World} {K : PySem.W.Frag} {mg : Str → Option Value} {base : Heap} (T : Txt K mg) :
    ∃ fd, FnG P w K mg base CX0 3 (He.ga K "_law_unit") fd ["pot"] (spQ K 1 F__law_unit) ∧ FunD K "_law_unit" "_law_unit" (defArgs s__law_unit) (defBody s__law_unit) (defScope s__law_unit) [] [] (He.ga K "_law_unit") fd := by
  obtain ⟨fd, F⟩ := T.f__law_unit
  obtain ⟨fd__law_cut, G__law_cut, K__law_cut⟩ := ok__law_cut (P := P) (w := w) (base := base) T
  obtain ⟨fd__law_draw, G__law_draw, K__law_draw⟩ := ok__law_draw (P := P) (w := w) (base := base) T
  obtain ⟨fd__law_pick, G__law_pick, K__law_pick⟩ := ok__law_pick (P := P) (w := w) (base := base) T
  have B__law_cut := K__law_cut.bindsN (ps := ["a", "b", "d"]) fun _ _ _ _ _ _ us hl => match us, hl with | [_, _, _], _ => rfl
  have B__law_draw := K__law_draw.bindsN (ps := ["pot", "many"]) fun _ _ _ _ _ _ us hl => match us, hl with | [_, _], _ => rfl
  have B__law_pick := K__law_pick.bindsN (ps := ["pot", "some"]) fun _ _ _ _ _ _ us hl => match us, hl with | [_, _], _ => rfl
  refine ⟨fd, fn_Q F sc__law_unit rfl rfl fun cdv A outer s H E a hr hg => ⟨_, (dss_cons (ds_if (dt_cmp (do_eq hr.units) (de_callQ G__law_draw mkQ_ari (hr.mono (by decide)) hg rfl T.g__law_draw K__law_draw.kp B__law_draw pass0 (pv 0) (da_cons de_int da_nil)) de_int (nomark _)) (dss_one (ds_ret (de_callQ G__law_pick mkQ_ari (hr.mono (by decide)) hg rfl T.g__law_pick K__law_pick.kp B__law_pick pass0 (pv 0) (da_cons (de_tup (da_cons (de_tup (da_cons de_int (da_cons de_int (da_cons de_int da_nil)))) (da_cons (de_tup (da_cons (de_neg de_int) (da_cons de_int (da_cons de_int da_nil)))) (da_cons (de_tup (da_cons de_int (da_cons de_int (da_cons de_int da_nil)))) (da_cons (de_tup (da_cons de_int (da_cons (de_neg de_int) (da_cons de_int da_nil)))) da_nil))))) da_nil)))) dss_nil) (dss_cons (ds_par (i := 1) (j := 2) rfl sc__law_unit.nd rfl rfl (by decide) rfl rfl (da_cons (de_op do_add de_int (de_callQ G__law_draw mkQ_ari (hr.mono (by decide)) hg rfl T.g__law_draw K__law_draw.kp B__law_draw pass0 (pv 0) (da_cons de_int da_nil))) (da_cons (de_op do_sub (de_callQ G__law_draw mkQ_ari (hr.mono (by decide)) hg rfl T.g__law_draw K__law_draw.kp B__law_draw pass0 (pv 0) (da_cons de_int da_nil)) de_int) da_nil)) rfl) (dss_one (ds_ret (de_call G__law_cut mkF_ari (hr.mono (by decide)) hg rfl T.g__law_cut K__law_cut.kp B__law_cut pass0 (da_cons (de_op do_sub (de_op do_mul (dn 1) (dn 1)) (de_op do_mul (dn 2) (dn 2))) (da_cons (de_op do_mul (de_op do_mul de_int (dn 1)) (dn 2)) (da_cons (de_op do_add (de_op do_mul (dn 1) (dn 1)) (de_op do_mul (dn 2) (dn 2))) da_nil))))))))⟩, F⟩
theorem sc_part_of : FnScope ["x", "fraction"] ["x", "fraction"] (defScope s_part_of) := ⟨rfl, rfl, rfl, by decide +kernel, rfl, by decide +kernel, by decide +kernel⟩
theorem ok_part_of {P : Program} {w : World} {K : PySem.W.Frag} {mg : Str → Option Value} {base : Heap} (T : Txt K mg) :
    ∃ fd, FnG P w K mg base CX0 4 (He.ga K "part_of") fd ["x", "fraction"] (spF K 2 F_part_of) ∧ FunD K "part_of" "part_of" (defArgs s_part_of) (defBody s_part_of) (defScope s_part_of) [] [] (He.ga K "part_of") fd := by
  obtain ⟨fd, F⟩ := T.f_part_of
  obtain ⟨fd_scaled, G_scaled, K_scaled⟩ := ok_scaled (P := P) (w := w) (base := base) T
  have B_scaled := K_scaled.bindsN (ps := ["x", "fraction"]) fun _ _ _ _ _ _ us hl => match us, hl with | [_, _], _ => rfl
  refine ⟨fd, fn_F F sc_part_of rfl rfl fun cdv A outer s H E p hr hg => ⟨_, (dss_one (ds_ret (de_call G_scaled mkF_ari (hr.mono (by decide)) hg rfl T.g_scaled K_scaled.kp B_scaled pass0 (da_cons (dn 0) (da_cons (de_tup (da_cons (de_ix do_ix (dn 1) de_int (fun _ _ => rfl)) (da_cons (de_ix do_ix (dn 1) de_int (fun _ _ => rfl)) da_nil))) da_nil)))))⟩, F⟩
theorem sc_over : FnScope ["x", "y", "n", "m"] ["x", "y"] (defScope s_over) := ⟨rfl, rfl, rfl, by decide +kernel, rfl, by decide +kernel, by decide +kernel⟩
theorem ok_over {P : Program} {w : World} {K : PySem.W.Frag} {mg : Str → Option Value} {base : Heap} (T : Txt K mg) :
    ∃ fd, FnG P w K mg base CX0 4 (He.ga K "over") fd ["x", "y"] (spF K 2 F_over) ∧ FunD K "over" "over" (defArgs s_over) (defBody s_over) (defScope s_over) [] [] (He.ga K "over") fd := by
  obtain ⟨fd, F⟩ := T.f_over
  obtain ⟨fd_size_of, G_size_of, K_size_of⟩ := ok_size_of (P := P) (w := w) (base := base) T
  obtain ⟨fd_scaled, G_scaled, K_scaled⟩ := ok_scaled (P := P) (w := w) (base := base) T
  obtain ⟨fd_times, G_times, K_times⟩ := ok_times (P := P) (w := w) (base := base) T
  obtain ⟨fd_mirror, G_mirror, K_mirror⟩ := ok_mirror (P := P) (w := w) (base := base) T
  have B_size_of := K_size_of.bindsN (ps := ["x"]) fun _ _ _ _ _ _ us hl => match us, hl with | [_], _ => rfl
  have B_scaled := K_scaled.bindsN (ps := ["x", "fraction"]) fun _ _ _ _ _ _ us hl => match us, hl with | [_, _], _ => rfl
  have B_times := K_times.bindsN (ps := ["x", "y"]) fun _ _ _ _ _ _ us hl => match us, hl with | [_, _], _ => rfl
  have B_mirror := K_mirror.bindsN (ps := ["x"]) fun _ _ _ _ _ _ us hl => match us, hl with | [_], _ => rfl
  refine ⟨fd, fn_F F sc_over rfl rfl fun cdv A outer s H E p hr hg => ⟨_, (dss_cons (ds_asg (de_call G_size_of mkF_ari (hr.mono (by decide)) hg rfl T.g_size_of K_size_of.kp B_size_of pass0 (da_cons (dn 1) da_nil)) (dv_tup rfl (dvs_cons (dv_name (i := 2) sc_over.nd rfl (Or.inl rfl)) (dvs_cons (dv_name (i := 3) sc_over.nd rfl (Or.inl rfl)) dvs_nil)))) (dss_one (ds_ret (de_call G_scaled mkF_ari (hr.mono (by decide)) hg rfl T.g_scaled K_scaled.kp B_scaled pass0 (da_cons (de_call G_times mkF_ari (hr.mono (by decide)) hg rfl T.g_times K_times.kp B_times pass0 (da_cons (dn 0) (da_cons (de_call G_mirror mkF_ari (hr.mono (by decide)) hg rfl T.g_mirror K_mirror.kp B_mirror pass0 (da_cons (dn 1) da_nil)) da_nil))) (da_cons (de_tup (da_cons (dn 3) (da_cons (dn 2) da_nil))) da_nil))))))⟩, F⟩
theorem sc_need_bound : FnScope ["given"] ["given"] (defScope s_need_bound) := ⟨rfl, rfl, rfl, by decide +kernel, rfl, by decide +kernel, by decide +kernel⟩
theorem ok_need_bound {P : Program} {w : World} {K : PySem.W.Frag} {mg : Str → Option Value} {base : Heap} (T : Txt K mg) :
    ∃ fd, FnG P w K mg base CX0 4 (He.ga K "need_bound") fd ["given"] (spF K 1 F_need_bound) ∧ FunD K "need_bound" "need_bound" (defArgs s_need_bound) (defBody s_need_bound) (defScope s_need_bound) [] [] (He.ga K "need_bound") fd := by
  obtain ⟨fd, F⟩ := T.f_need_bound
  obtain ⟨fd_is_bound, G_is_bound, K_is_bound⟩ := ok_is_bound (P := P) (w := w) (base := base) T
  have B_is_bound := K_is_bound.bindsN (ps := ["value"]) fun _ _ _ _ _ _ us hl => match us, hl with | [_], _ => rfl
  refine ⟨fd, fn_F F sc_need_bound rfl rfl fun cdv A outer s H E p hr hg => ⟨_, (dss_one (ds_if (dt_not (dt_tru (de_call G_is_bound mkF_ari (hr.mono (by decide)) hg rfl T.g_is_bound K_is_bound.kp B_is_bound pass0 (da_cons (dn 0) da_nil)))) (dss_one ds_never) dss_nil))⟩, F⟩
theorem sc_need_number : FnScope ["given"] ["given"] (defScope s_need_number) := ⟨rfl, rfl, rfl, by decide +kernel, rfl, by decide +kernel, by decide +kernel⟩
theorem ok_need_number {P : Program} {w : World} {K : PySem.W.Frag} {mg : Str → Option Value} {base : Heap} (T : Txt K mg) :
    ∃ fd, FnG P w K mg base CX0 4 (He.ga K "need_number") fd ["given"] (spF K 1 F_need_number) ∧ FunD K "need_number" "need_number" (defArgs s_need_number) (defBody s_need_number) (defScope s_need_number) [] [] (He.ga K "need_number") fd := by
  obtain ⟨fd, F⟩ := T.f_need_number
  obtain ⟨fd_is_number, G_is_number, K_is_number⟩ := ok_is_number (P := P) (w := w) (base := base) T
  have B_is_number := K_is_number.bindsN (ps := ["value"]) fun _ _ _ _ _ _ us hl => match us, hl with | [_], _ => rfl
  refine ⟨fd, fn_F F sc_need_number rfl rfl fun cdv A outer s H E p hr hg => ⟨_, (dss_one (ds_if (dt_not (dt_tru (de_call G_is_number mkF_ari (hr.mono (by decide)) hg rfl T.g_is_number K_is_number.kp B_is_number pass0 (da_cons (dn 0) da_nil)))) (dss_one ds_never) dss_nil))⟩, F⟩
theorem sc_is_any_turn : FnScope ["value", "unit", "centre"] ["value"] (defScope s_is_any_turn) := ⟨rfl, rfl, rfl, by decide +kernel, rfl, by decide +kernel, by decide +kernel⟩
theorem ok_is_any_turn {P : Program} {w : World} {K : PySem.W.Frag} {mg : Str → Option Value} {base : Heap} (T : Txt K mg) :
    ∃ fd, FnG P w K mg base CX0 4 (He.ga K "is_any_turn") fd ["value"] (spF K 1 F_is_any_turn) ∧ FunD K "is_any_turn" "is_any_turn" (defArgs s_is_any_turn) (defBody s_is_any_turn) (defScope s_is_any_turn) [] [] (He.ga K "is_any_turn") fd := by
  obtain ⟨fd, F⟩ := T.f_is_any_turn
  obtain ⟨fd_is_number, G_is_number, K_is_number⟩ := ok_is_number (P := P) (w := w) (base := base) T
  obtain ⟨fd_size_of, G_size_of, K_size_of⟩ := ok_size_of (P := P) (w := w) (base := base) T
  have B_is_number := K_is_number.bindsN (ps := ["value"]) fun _ _ _ _ _ _ us hl => match us, hl with | [_], _ => rfl
  have B_size_of := K_size_of.bindsN (ps := ["x"]) fun _ _ _ _ _ _ us hl => match us, hl with | [_], _ => rfl
  obtain ⟨⟨v_ONE, u_ONE, m_ONE, r_ONE, d_ONE⟩⟩ := T.c_ONE
  refine ⟨fd, fn_F F sc_is_any_turn rfl rfl fun cdv A outer s H E p hr hg => ⟨_, (dss_cons (ds_if (dt_w (dw_or (dt_not (dt_tru (de_isi kit_tuple rfl T.b_isinstance (by decide +kernel) (dn 0) (pe_bltn (v := .ty "tuple") rfl T.b_tuple (by decide +kernel) rfl)))) (dw_or1 (dt_cmp (do_ne hr.units) (de_cb db_len rfl T.b_len (by decide +kernel) (da_cons (dn 0) da_nil)) de_int (nomark _))))) (dss_one (ds_ret de_bl)) dss_nil) (dss_cons (ds_asg (dn 0) (dv_tup rfl (dvs_cons (dv_name (i := 1) sc_is_any_turn.nd rfl (Or.inl rfl)) (dvs_cons (dv_name (i := 2) sc_is_any_turn.nd rfl (Or.inl rfl)) dvs_nil)))) (dss_one (ds_ret (de_and (de_call G_is_number mkF_ari (hr.mono (by decide)) hg rfl T.g_is_number K_is_number.kp B_is_number pass0 (da_cons (dn 1) da_nil)) (de_and (de_call G_is_number mkF_ari (hr.mono (by decide)) hg rfl T.g_is_number K_is_number.kp B_is_number pass0 (da_cons (dn 2) da_nil)) (de_one (de_cmp (do_eq hr.units) (de_call G_size_of mkF_ari (hr.mono (by decide)) hg rfl T.g_size_of K_size_of.kp B_size_of pass0 (da_cons (dn 1) da_nil)) (de_con rfl m_ONE r_ONE d_ONE) (nomark _)))))))))⟩, F⟩
theorem sc_back_of : FnScope ["turn", "unit", "centre"] ["turn"] (defScope s_back_of) := ⟨rfl, rfl, rfl, by decide +kernel, rfl, by decide +kernel, by decide +kernel⟩
theorem ok_back_of {P : Program} {w : World} {K : PySem.W.Frag} {mg : Str → Option Value} {base : Heap} (T : Txt K mg) :
    ∃ fd, FnG P w K mg base CX0 4 (He.ga K "back_of") fd ["turn"] (spF K 1 F_back_of) ∧ FunD K "back_of" "back_of" (defArgs s_back_of) (defBody s_back_of) (defScope s_back_of) [] [] (He.ga K "back_of") fd := by
  obtain ⟨fd, F⟩ := T.f_back_of
  obtain ⟨fd_mirror, G_mirror, K_mirror⟩ := ok_mirror (P := P) (w := w) (base := base) T
  obtain ⟨fd_less, G_less, K_less⟩ := ok_less (P := P) (w := w) (base := base) T
  obtain ⟨fd_times, G_times, K_times⟩ := ok_times (P := P) (w := w) (base := base) T
  have B_mirror := K_mirror.bindsN (ps := ["x"]) fun _ _ _ _ _ _ us hl => match us, hl with | [_], _ => rfl
  have B_less := K_less.bindsN (ps := ["x", "y"]) fun _ _ _ _ _ _ us hl => match us, hl with | [_, _], _ => rfl
  have B_times := K_times.bindsN (ps := ["x", "y"]) fun _ _ _ _ _ _ us hl => match us, hl with | [_, _], _ => rfl
  obtain ⟨⟨v_NOUGHT, u_NOUGHT, m_NOUGHT, r_NOUGHT, d_NOUGHT⟩⟩ := T.c_NOUGHT
  refine ⟨fd, fn_F F sc_back_of rfl rfl fun cdv A outer s H E p hr hg => ⟨_, (dss_cons (ds_asg (dn 0) (dv_tup rfl (dvs_cons (dv_name (i := 1) sc_back_of.nd rfl (Or.inl rfl)) (dvs_cons (dv_name (i := 2) sc_back_of.nd rfl (Or.inl rfl)) dvs_nil)))) (dss_one (ds_ret (de_tup (da_cons (de_call G_mirror mkF_ari (hr.mono (by decide)) hg rfl T.g_mirror K_mirror.kp B_mirror pass0 (da_cons (dn 1) da_nil)) (da_cons (de_call G_less mkF_ari (hr.mono (by decide)) hg rfl T.g_less K_less.kp B_less pass0 (da_cons (de_con rfl m_NOUGHT r_NOUGHT d_NOUGHT) (da_cons (de_call G_times mkF_ari (hr.mono (by decide)) hg rfl T.g_times K_times.kp B_times pass0 (da_cons (dn 1) (da_cons (dn 2) da_nil))) da_nil))) da_nil))))))⟩, F⟩
theorem sc__law_line : FnScope ["own", "x"] ["own"] (defScope s__law_line) := ⟨rfl, rfl, rfl, by decide +kernel, rfl, by decide +kernel, by decide +kernel⟩
theorem ok__law_line {P : Program} {w : World} {K : PySem.W.Frag} {mg : Str → Option Value} {base : Heap} (T : Txt K mg) :
    ∃ fd, FnG P w K mg base CX0 4 (He.ga K "_law_line") fd ["own"] (spF K 1 F__law_line) ∧ FunD K "_law_line" "_law_line" (defArgs s__law_line) (defBody s__law_line) (defScope s__law_line) [] [] (He.ga K "_law_line") fd := by
  obtain ⟨fd, F⟩ := T.f__law_line
  obtain ⟨fd__law_number, G__law_number, K__law_number⟩ := ok__law_number (P := P) (w := w) (base := base) T
  have B__law_number := K__law_number.bindsN (ps := ["x"]) fun _ _ _ _ _ _ us hl => match us, hl with | [_], _ => rfl
  refine ⟨fd, fn_F F sc__law_line rfl rfl fun cdv A outer s H E p hr hg => ⟨_, (dss_one (ds_ret (de_cty db_tup rfl T.b_tuple (by decide +kernel) (da_cons (de_of (dm_lc (te := (tCall (spF K 1 F__law_number_2) [] (fun _ _ _ => False) (tCons (tVar 1) tNil))) (tt := tYes) (g := (gName 1)) s (own := [("x", 1)]) rfl sc__law_line.nd (DI.x (di_seq (dn 0))) (blkOk_by (own := [("x", 1)]) (N := ["own", "x"]) (sc := defScope s__law_line) (by decide +kernel)) rfl (fun _ _ _ _ _ => (dv_name (i := 1) sc__law_line.nd rfl (Or.inl rfl))) (fun _ _ _ _ _ => dts_nil) (fun _ _ _ _ _ => (de_call G__law_number mkF_ari (hr.mono (by decide)) hg rfl T.g__law_number K__law_number.kp B__law_number pass0 (da_cons (dn 1) da_nil))))) da_nil))))⟩, F⟩
theorem sc__law_is_line : FnScope ["thing", "many", "each"] ["thing", "many"] (defScope s__law_is_line) := ⟨rfl, rfl, rfl, by decide +kernel, rfl, by decide +kernel, by decide +kernel⟩
theorem ok__law_is_line {P : Program} {w : World} {K : PySem.W.Frag} {mg : Str → Option Value} {base : Heap} (T : Txt K mg) :
    ∃ fd, FnG P w K mg base CX0 4 (He.ga K "_law_is_line") fd ["thing", "many"] (spF K 2 F__law_is_line) ∧ FunD K "_law_is_line" "_law_is_line" (defArgs s__law_is_line) (defBody s__law_is_line) (defScope s__law_is_line) [] [] (He.ga K "_law_is_line") fd := by
  obtain ⟨fd, F⟩ := T.f__law_is_line
  obtain ⟨fd__law_is_number, G__law_is_number, K__law_is_number⟩ := ok__law_is_number (P := P) (w := w) (base := base) T
  have B__law_is_number := K__law_is_number.bindsN (ps := ["thing"]) fun _ _ _ _ _ _ us hl => match us, hl with | [_], _ => rfl
  refine ⟨fd, fn_F F sc__law_is_line rfl rfl fun cdv A outer s H E p hr hg => ⟨_, (dss_cons (ds_if (dt_w (dw_or (dt_not (dt_tru (de_isi kit_tuple rfl T.b_isinstance (by decide +kernel) (dn 0) (pe_bltn (v := .ty "tuple") rfl T.b_tuple (by decide +kernel) rfl)))) (dw_or1 (dt_cmp (do_ne hr.units) (de_cb db_len rfl T.b_len (by decide +kernel) (da_cons (dn 0) da_nil)) (dn 1) (nomark _))))) (dss_one (ds_ret de_bl)) dss_nil) (dss_one (ds_ret (de_cmp (do_eq hr.units) (de_of (dm_lc (te := (tVar 2)) (tt := (tNot (tTru K (tCall (spF K 1 F__law_is_number_2) [] (fun _ _ _ => False) (tCons (tVar 2) tNil))))) (g := (gName 2)) s (own := [("each", 2)]) rfl sc__law_is_line.nd (DI.x (di_seq (dn 0))) (blkOk_by (own := [("each", 2)]) (N := ["thing", "many", "each"]) (sc := defScope s__law_is_line) (by decide +kernel)) rfl (fun _ _ _ _ _ => (dv_name (i := 2) sc__law_is_line.nd rfl (Or.inl rfl))) (fun _ _ _ _ _ => (dts_one (dt_not (dt_tru (de_call G__law_is_number mkF_ari (hr.mono (by decide)) hg rfl T.g__law_is_number K__law_is_number.kp B__law_is_number pass0 (da_cons (dn 2) da_nil)))))) (fun _ _ _ _ _ => (dn 2)))) (de_of (dm_lst da_nil)) (nomark _)))))⟩, F⟩
theorem sc__law_within : FnScope ["pot", "upto"] ["pot", "upto"] (defScope s__law_within) := ⟨rfl, rfl, rfl, by decide +kernel, rfl, by decide +kernel, by decide +kernel⟩
theorem ok__law_within {P : Program} {w : World} {K : PySem.W.Frag} {mg : Str → Option Value} {base : Heap} (T : Txt K mg) :
    ∃ fd, FnG P w K mg base CX0 4 (He.ga K "_law_within") fd ["pot", "upto"] (spQ K 2 F__law_within_2) ∧ FunD K "_law_within" "_law_within" (defArgs s__law_within) (defBody s__law_within) (defScope s__law_within) [] [] (He.ga K "_law_within") fd := by
  obtain ⟨fd, F⟩ := T.f__law_within
  obtain ⟨fd__law_times, G__law_times, K__law_times⟩ := ok__law_times (P := P) (w := w) (base := base) T
  obtain ⟨fd__law_place, G__law_place, K__law_place⟩ := ok__law_place (P := P) (w := w) (base := base) T
  obtain ⟨fd__law_cut, G__law_cut, K__law_cut⟩ := ok__law_cut (P := P) (w := w) (base := base) T
  obtain ⟨fd__law_root, G__law_root, K__law_root⟩ := ok__law_root (P := P) (w := w) (base := base) T
  have B__law_times := K__law_times.bindsN (ps := ["x", "y"]) fun _ _ _ _ _ _ us hl => match us, hl with | [_, _], _ => rfl
  have B__law_place := K__law_place.bindsN (ps := ["pot"]) fun _ _ _ _ _ _ us hl => match us, hl with | [_], _ => rfl
  have B__law_cut := K__law_cut.bindsN (ps := ["a", "b", "d"]) fun _ _ _ _ _ _ us hl => match us, hl with | [_, _, _], _ => rfl
  have B__law_root := K__law_root.bindsN (ps := ["n"]) fun _ _ _ _ _ _ us hl => match us, hl with | [_], _ => rfl
  refine ⟨fd, fn_Q F sc__law_within rfl rfl fun cdv A outer s H E a hr hg => ⟨_, (dss_one (ds_ret (de_call G__law_times mkF_ari (hr.mono (by decide)) hg rfl T.g__law_times K__law_times.kp B__law_times pass0 (da_cons (de_callQ G__law_place mkQ_ari (hr.mono (by decide)) hg rfl T.g__law_place K__law_place.kp B__law_place pass0 (pv 0) da_nil) (da_cons (de_call G__law_cut mkF_ari (hr.mono (by decide)) hg rfl T.g__law_cut K__law_cut.kp B__law_cut pass0 (da_cons (de_call G__law_root mkF_ari (hr.mono (by decide)) hg rfl T.g__law_root K__law_root.kp B__law_root pass0 (da_cons (de_op do_mul (de_ix do_ix (dn 1) de_int (fun _ _ => rfl)) (de_ix do_ix (dn 1) de_int (fun _ _ => rfl))) da_nil)) (da_cons de_int (da_cons (de_ix do_ix (dn 1) de_int (fun _ _ => rfl)) da_nil)))) da_nil)))))⟩, F⟩
theorem sc__law_turn_rows : FnScope ["u", "c", "upto"] ["u", "c", "upto"] (defScope s__law_turn_rows) := ⟨rfl, rfl, rfl, by decide +kernel, rfl, by decide +kernel, by decide +kernel⟩
theorem ok__law_turn_rows {P : Program} {w : World} {K : PySem.W.Frag} {mg : Str → Option Value} {base : Heap} (T : Txt K mg) :
    ∃ fd, FnG P w K mg base CX0 4 (He.ga K "_law_turn_rows") fd ["u", "c", "upto"] (spF K 3 F__law_turn_rows) ∧ FunD K "_law_turn_rows" "_law_turn_rows" (defArgs s__law_turn_rows) (defBody s__law_turn_rows) (defScope s__law_turn_rows) [] [] (He.ga K "_law_turn_rows") fd := by
  obtain ⟨fd, F⟩ := T.f__law_turn_rows
  obtain ⟨fd__law_less, G__law_less, K__law_less⟩ := ok__law_less (P := P) (w := w) (base := base) T
  obtain ⟨fd__law_times, G__law_times, K__law_times⟩ := ok__law_times (P := P) (w := w) (base := base) T
  obtain ⟨fd__law_over, G__law_over, K__law_over⟩ := ok__law_over (P := P) (w := w) (base := base) T
  obtain ⟨fd__law_mirror, G__law_mirror, K__law_mirror⟩ := ok__law_mirror (P := P) (w := w) (base := base) T
  obtain ⟨fd__law_real, G__law_real, K__law_real⟩ := ok__law_real (P := P) (w := w) (base := base) T
  have B__law_less := K__law_less.bindsN (ps := ["x", "y"]) fun _ _ _ _ _ _ us hl => match us, hl with | [_, _], _ => rfl
  have B__law_times := K__law_times.bindsN (ps := ["x", "y"]) fun _ _ _ _ _ _ us hl => match us, hl with | [_, _], _ => rfl
  have B__law_over := K__law_over.bindsN (ps := ["x", "y"]) fun _ _ _ _ _ _ us hl => match us, hl with | [_, _], _ => rfl
  have B__law_mirror := K__law_mirror.bindsN (ps := ["x"]) fun _ _ _ _ _ _ us hl => match us, hl with | [_], _ => rfl
  have B__law_real := K__law_real.bindsN (ps := ["pair"]) fun _ _ _ _ _ _ us hl => match us, hl with | [_], _ => rfl
  refine ⟨fd, fn_F F sc__law_turn_rows rfl rfl fun cdv A outer s H E p hr hg => ⟨_, (dss_one (ds_ret (de_tup (da_cons (de_of (dm_lst (da_cons (de_call G__law_less mkF_ari (hr.mono (by decide)) hg rfl T.g__law_less K__law_less.kp B__law_less pass0 (da_cons (de_tup (da_cons de_int (da_cons de_int (da_cons de_int da_nil)))) (da_cons (de_call G__law_times mkF_ari (hr.mono (by decide)) hg rfl T.g__law_times K__law_times.kp B__law_times pass0 (da_cons (dn 0) (da_cons (dn 1) da_nil))) da_nil))) (da_cons (dn 0) da_nil)))) (da_cons (de_of (dm_lst (da_cons (de_tup (da_cons de_int (da_cons de_int (da_cons de_int da_nil)))) (da_cons (de_call G__law_less mkF_ari (hr.mono (by decide)) hg rfl T.g__law_less K__law_less.kp B__law_less pass0 (da_cons (de_tup (da_cons de_int (da_cons de_int (da_cons de_int da_nil)))) (da_cons (de_call G__law_over mkF_ari (hr.mono (by decide)) hg rfl T.g__law_over K__law_over.kp B__law_over pass0 (da_cons (de_call G__law_mirror mkF_ari (hr.mono (by decide)) hg rfl T.g__law_mirror K__law_mirror.kp B__law_mirror pass0 (da_cons (dn 1) da_nil)) (da_cons (de_call G__law_real mkF_ari (hr.mono (by decide)) hg rfl T.g__law_real K__law_real.kp B__law_real pass0 (da_cons (dn 2) da_nil)) da_nil))) da_nil))) da_nil)))) da_nil)))))⟩, F⟩
theorem sc__law_leads : FnScope ["u", "c", "upto", "z", "far"] ["u", "c", "upto", "z"] (defScope s__law_leads) := ⟨rfl, rfl, rfl, by decide +kernel, rfl, by decide +kernel, by decide +kernel⟩
theorem ok__law_leads {P : Program} {w : World} {K : PySem.W.Frag} {mg : Str → Option Value} {base : Heap} (T : Txt K mg) :
    ∃ fd, FnG P w K mg base CX0 4 (He.ga K "_law_leads") fd ["u", "c", "upto", "z"] (spF K 4 F__law_leads) ∧ FunD K "_law_leads" "_law_leads" (defArgs s__law_leads) (defBody s__law_leads) (defScope s__law_leads) [] [] (He.ga K "_law_leads") fd := by
  obtain ⟨fd, F⟩ := T.f__law_leads
  obtain ⟨fd__law_less, G__law_less, K__law_less⟩ := ok__law_less (P := P) (w := w) (base := base) T
  obtain ⟨fd__law_over, G__law_over, K__law_over⟩ := ok__law_over (P := P) (w := w) (base := base) T
  obtain ⟨fd__law_is_nought, G__law_is_nought, K__law_is_nought⟩ := ok__law_is_nought (P := P) (w := w) (base := base) T
  obtain ⟨fd__law_times, G__law_times, K__law_times⟩ := ok__law_times (P := P) (w := w) (base := base) T
  obtain ⟨fd__law_real, G__law_real, K__law_real⟩ := ok__law_real (P := P) (w := w) (base := base) T
  obtain ⟨fd__law_mirror, G__law_mirror, K__law_mirror⟩ := ok__law_mirror (P := P) (w := w) (base := base) T
  have B__law_less := K__law_less.bindsN (ps := ["x", "y"]) fun _ _ _ _ _ _ us hl => match us, hl with | [_, _], _ => rfl
  have B__law_over := K__law_over.bindsN (ps := ["x", "y"]) fun _ _ _ _ _ _ us hl => match us, hl with | [_, _], _ => rfl
  have B__law_is_nought := K__law_is_nought.bindsN (ps := ["x"]) fun _ _ _ _ _ _ us hl => match us, hl with | [_], _ => rfl
  have B__law_times := K__law_times.bindsN (ps := ["x", "y"]) fun _ _ _ _ _ _ us hl => match us, hl with | [_, _], _ => rfl
  have B__law_real := K__law_real.bindsN (ps := ["pair"]) fun _ _ _ _ _ _ us hl => match us, hl with | [_], _ => rfl
  have B__law_mirror := K__law_mirror.bindsN (ps := ["x"]) fun _ _ _ _ _ _ us hl => match us, hl with | [_], _ => rfl
  refine ⟨fd, fn_F F sc__law_leads rfl rfl fun cdv A outer s H E p hr hg => ⟨_, (dss_cons (ds_set (i := 4) sc__law_leads.nd rfl (Or.inl rfl) (de_call G__law_less mkF_ari (hr.mono (by decide)) hg rfl T.g__law_less K__law_less.kp B__law_less pass0 (da_cons (de_tup (da_cons de_int (da_cons de_int (da_cons de_int da_nil)))) (da_cons (de_call G__law_over mkF_ari (hr.mono (by decide)) hg rfl T.g__law_over K__law_over.kp B__law_over pass0 (da_cons (de_call G__law_times mkF_ari (hr.mono (by decide)) hg rfl T.g__law_times K__law_times.kp B__law_times pass0 (da_cons (de_call G__law_mirror mkF_ari (hr.mono (by decide)) hg rfl T.g__law_mirror K__law_mirror.kp B__law_mirror pass0 (da_cons (dn 1) da_nil)) (da_cons (dn 3) da_nil))) (da_cons (de_call G__law_real mkF_ari (hr.mono (by decide)) hg rfl T.g__law_real K__law_real.kp B__law_real pass0 (da_cons (dn 2) da_nil)) da_nil))) da_nil)))) (dss_one (ds_ret (de_if (dt_tru (de_call G__law_is_nought mkF_ari (hr.mono (by decide)) hg rfl T.g__law_is_nought K__law_is_nought.kp B__law_is_nought pass0 (da_cons (dn 4) da_nil))) de_non (de_call G__law_over mkF_ari (hr.mono (by decide)) hg rfl T.g__law_over K__law_over.kp B__law_over pass0 (da_cons (de_call G__law_times mkF_ari (hr.mono (by decide)) hg rfl T.g__law_times K__law_times.kp B__law_times pass0 (da_cons (dn 0) (da_cons (de_call G__law_less mkF_ari (hr.mono (by decide)) hg rfl T.g__law_less K__law_less.kp B__law_less pass0 (da_cons (dn 3) (da_cons (dn 1) da_nil))) da_nil))) (da_cons (dn 4) da_nil)))))))⟩, F⟩
theorem sc__law_turn : FnScope ["u", "c"] ["u", "c"] (defScope s__law_turn) := ⟨rfl, rfl, rfl, by decide +kernel, rfl, by decide +kernel, by decide +kernel⟩
theorem ok__law_turn {P : Program} {w : World} {K : PySem.W.Frag} {mg : Str → Option Value} {base : Heap} (T : Txt K mg) :
    ∃ fd, FnG P w K mg base CX0 4 (He.ga K "_law_turn") fd ["u", "c"] (spF K 2 F__law_turn) ∧ FunD K "_law_turn" "_law_turn" (defArgs s__law_turn) (defBody s__law_turn) (defScope s__law_turn) [] [] (He.ga K "_law_turn") fd := by
  obtain ⟨fd, F⟩ := T.f__law_turn
  obtain ⟨fd__law_number, G__law_number, K__law_number⟩ := ok__law_number (P := P) (w := w) (base := base) T
  have B__law_number := K__law_number.bindsN (ps := ["x"]) fun _ _ _ _ _ _ us hl => match us, hl with | [_], _ => rfl
  refine ⟨fd, fn_F F sc__law_turn rfl rfl fun cdv A outer s H E p hr hg => ⟨_, (dss_one (ds_ret (de_tup (da_cons (de_call G__law_number mkF_ari (hr.mono (by decide)) hg rfl T.g__law_number K__law_number.kp B__law_number pass0 (da_cons (dn 0) da_nil)) (da_cons (de_call G__law_number mkF_ari (hr.mono (by decide)) hg rfl T.g__law_number K__law_number.kp B__law_number pass0 (da_cons (dn 1) da_nil)) da_nil)))))⟩, F⟩
theorem sc__law_below : FnScope ["x", "upto"] ["x", "upto"] (defScope s__law_below) := ⟨rfl, rfl, rfl, by decide +kernel, rfl, by decide +kernel, by decide +kernel⟩
theorem ok__law_below {P : Program} {w : World} {K : PySem.W.Frag} {mg : Str → Option Value} {base : Heap} (T : Txt K mg) :
    ∃ fd, FnG P w K mg base CX0 4 (He.ga K "_law_below") fd ["x", "upto"] (spF K 2 F__law_below_2) ∧ FunD K "_law_below" "_law_below" (defArgs s__law_below) (defBody s__law_below) (defScope s__law_below) [] [] (He.ga K "_law_below") fd := by
  obtain ⟨fd, F⟩ := T.f__law_below
  obtain ⟨fd__law_less, G__law_less, K__law_less⟩ := ok__law_less (P := P) (w := w) (base := base) T
  obtain ⟨fd__law_size, G__law_size, K__law_size⟩ := ok__law_size (P := P) (w := w) (base := base) T
  obtain ⟨fd__law_real, G__law_real, K__law_real⟩ := ok__law_real (P := P) (w := w) (base := base) T
  have B__law_less := K__law_less.bindsN (ps := ["x", "y"]) fun _ _ _ _ _ _ us hl => match us, hl with | [_, _], _ => rfl
  have B__law_size := K__law_size.bindsN (ps := ["x"]) fun _ _ _ _ _ _ us hl => match us, hl with | [_], _ => rfl
  have B__law_real := K__law_real.bindsN (ps := ["pair"]) fun _ _ _ _ _ _ us hl => match us, hl with | [_], _ => rfl
  refine ⟨fd, fn_F F sc__law_below rfl rfl fun cdv A outer s H E p hr hg => ⟨_, (dss_one (ds_ret (de_cmp do_lt (de_ix do_ix (de_call G__law_less mkF_ari (hr.mono (by decide)) hg rfl T.g__law_less K__law_less.kp B__law_less pass0 (da_cons (de_call G__law_size mkF_ari (hr.mono (by decide)) hg rfl T.g__law_size K__law_size.kp B__law_size pass0 (da_cons (dn 0) da_nil)) (da_cons (de_call G__law_real mkF_ari (hr.mono (by decide)) hg rfl T.g__law_real K__law_real.kp B__law_real pass0 (da_cons (dn 1) da_nil)) da_nil))) de_int (fun _ _ => rfl)) de_int (nomark _))))⟩, F⟩
theorem sc__law_maybe : FnScope ["x"] ["x"] (defScope s__law_maybe) := ⟨rfl, rfl, rfl, by decide +kernel, rfl, by decide +kernel, by decide +kernel⟩
theorem ok__law_maybe {P : Program} {w : World} {K : PySem.W.Frag} {mg : Str → Option Value} {base : Heap} (T : Txt K mg) :
    ∃ fd, FnG P w K mg base CX0 4 (He.ga K "_law_maybe") fd ["x"] (spF K 1 F__law_maybe) ∧ FunD K "_law_maybe" "_law_maybe" (defArgs s__law_maybe) (defBody s__law_maybe) (defScope s__law_maybe) [] [] (He.ga K "_law_maybe") fd := by
  obtain ⟨fd, F⟩ := T.f__law_maybe
  obtain ⟨fd__law_number, G__law_number, K__law_number⟩ := ok__law_number (P := P) (w := w) (base := base) T
  have B__law_number := K__law_number.bindsN (ps := ["x"]) fun _ _ _ _ _ _ us hl => match us, hl with | [_], _ => rfl
  refine ⟨fd, fn_F F sc__law_maybe rfl rfl fun cdv A outer s H E p hr hg => ⟨_, (dss_one (ds_ret (de_if (dt_cmp do_isN (dn 0) de_non (nomark _)) de_non (de_call G__law_number mkF_ari (hr.mono (by decide)) hg rfl T.g__law_number K__law_number.kp B__law_number pass0 (da_cons (dn 0) da_nil)))))⟩, F⟩
theorem sc_series_over : FnScope ["p", "q", "found", "at", "total", "k"] ["p", "q"] (defScope s_series_over) := ⟨rfl, rfl, rfl, by decide +kernel, rfl, by decide +kernel, by decide +kernel⟩
theorem ok_series_over {P : Program} {w : World} {K : PySem.W.Frag} {mg : Str → Option Value} {base : Heap} (T : Txt K mg) :
    ∃ fd, FnG P w K mg base CX0 5 (He.ga K "series_over") fd ["p", "q"] (spF K 2 F_series_over) ∧ FunD K "series_over" "series_over" (defArgs s_series_over) (defBody s_series_over) (defScope s_series_over) [] [] (He.ga K "series_over") fd := by
  obtain ⟨fd, F⟩ := T.f_series_over
  obtain ⟨fd_less, G_less, K_less⟩ := ok_less (P := P) (w := w) (base := base) T
  obtain ⟨fd_over, G_over, K_over⟩ := ok_over (P := P) (w := w) (base := base) T
  obtain ⟨fd_times, G_times, K_times⟩ := ok_times (P := P) (w := w) (base := base) T
  have B_less := K_less.bindsN (ps := ["x", "y"]) fun _ _ _ _ _ _ us hl => match us, hl with | [_, _], _ => rfl
  have B_over := K_over.bindsN (ps := ["x", "y"]) fun _ _ _ _ _ _ us hl => match us, hl with | [_, _], _ => rfl
  have B_times := K_times.bindsN (ps := ["x", "y"]) fun _ _ _ _ _ _ us hl => match us, hl with | [_, _], _ => rfl
  refine ⟨fd, fn_F F sc_series_over rfl rfl fun cdv A outer s H E p hr hg => ⟨_, (dss_cons (ds_setM (i := 2) sc_series_over.nd rfl (Or.inl rfl) (dm_lst da_nil)) (dss_cons (ds_for PassesOwn.never rfl (di_range1 rfl T.b_range (da_cons (de_cb db_len rfl T.b_len (by decide +kernel) (da_cons (dn 0) da_nil)) da_nil)) (dv_name (i := 3) sc_series_over.nd rfl (Or.inl rfl)) (dss_cons (ds_set (i := 4) sc_series_over.nd rfl (Or.inl rfl) (de_ix do_ix (dn 0) (dn 3) (fun _ _ => rfl))) (dss_cons (ds_for PassesOwn.never rfl (di_range2 rfl T.b_range (da_cons de_int (da_cons (de_cb (db_min rfl) rfl T.b_min (by decide +kernel) (da_cons (de_op do_add (dn 3) de_int) (da_cons (de_cb db_len rfl T.b_len (by decide +kernel) (da_cons (dn 1) da_nil)) da_nil))) da_nil))) (dv_name (i := 5) sc_series_over.nd rfl (Or.inl rfl)) (dss_one (ds_set (i := 4) sc_series_over.nd rfl (Or.inl rfl) (de_call G_less mkF_ari (hr.mono (by decide)) hg rfl T.g_less K_less.kp B_less pass0 (da_cons (dn 4) (da_cons (de_call G_times mkF_ari (hr.mono (by decide)) hg rfl T.g_times K_times.kp B_times pass0 (da_cons (de_ix do_ix (dn 1) (dn 5) (fun _ _ => rfl)) (da_cons (de_ixV (i := 2) rfl (by first | exact Or.inl rfl | exact Or.inr (Or.inl rfl) | exact Or.inr (Or.inr rfl)) (de_op do_sub (dn 3) (dn 5)) (fun _ _ => rfl)) da_nil))) da_nil)))))) (dss_one (ds_app (i := 2) rfl (by first | exact Or.inl rfl | exact Or.inr (Or.inl rfl)) (de_call G_over mkF_ari (hr.mono (by decide)) hg rfl T.g_over K_over.kp B_over pass0 (da_cons (dn 4) (da_cons (de_ix do_ix (dn 1) de_int (fun _ _ => rfl)) da_nil)))))))) (dss_one (ds_ret (de_tupV (i := 2) rfl (by first | exact Or.inl rfl | exact Or.inr (Or.inl rfl)) rfl T.b_tuple (by decide +kernel))))))⟩, F⟩
theorem sc_is_turn_for : FnScope ["value", "bound"] ["value", "bound"] (defScope s_is_turn_for) := ⟨rfl, rfl, rfl, by decide +kernel, rfl, by decide +kernel, by decide +kernel⟩
theorem ok_is_turn_for {P : Program} {w : World} {K : PySem.W.Frag} {mg : Str → Option Value} {base : Heap} (T : Txt K mg) :
    ∃ fd, FnG P w K mg base CX0 5 (He.ga K "is_turn_for") fd ["value", "bound"] (spF K 2 F_is_turn_for) ∧ FunD K "is_turn_for" "is_turn_for" (defArgs s_is_turn_for) (defBody s_is_turn_for) (defScope s_is_turn_for) [] [] (He.ga K "is_turn_for") fd := by
  obtain ⟨fd, F⟩ := T.f_is_turn_for
  obtain ⟨fd_is_any_turn, G_is_any_turn, K_is_any_turn⟩ := ok_is_any_turn (P := P) (w := w) (base := base) T
  obtain ⟨fd_order, G_order, K_order⟩ := ok_order (P := P) (w := w) (base := base) T
  obtain ⟨fd_size_of, G_size_of, K_size_of⟩ := ok_size_of (P := P) (w := w) (base := base) T
  have B_is_any_turn := K_is_any_turn.bindsN (ps := ["value"]) fun _ _ _ _ _ _ us hl => match us, hl with | [_], _ => rfl
  have B_order := K_order.bindsN (ps := ["x", "y"]) fun _ _ _ _ _ _ us hl => match us, hl with | [_, _], _ => rfl
  have B_size_of := K_size_of.bindsN (ps := ["x"]) fun _ _ _ _ _ _ us hl => match us, hl with | [_], _ => rfl
  refine ⟨fd, fn_F F sc_is_turn_for rfl rfl fun cdv A outer s H E p hr hg => ⟨_, (dss_one (ds_ret (de_and (de_call G_is_any_turn mkF_ari (hr.mono (by decide)) hg rfl T.g_is_any_turn K_is_any_turn.kp B_is_any_turn pass0 (da_cons (dn 0) da_nil)) (de_one (de_cmp do_lt (de_call G_order mkF_ari (hr.mono (by decide)) hg rfl T.g_order K_order.kp B_order pass0 (da_cons (de_call G_size_of mkF_ari (hr.mono (by decide)) hg rfl T.g_size_of K_size_of.kp B_size_of pass0 (da_cons (de_ix do_ix (dn 0) de_int (fun _ _ => rfl)) da_nil)) (da_cons (dn 1) da_nil))) de_int (nomark _))))))⟩, F⟩
theorem sc_one_turn : FnScope ["turn", "other", "bound", "u", "a", "v", "b", "c", "unit"] ["turn", "other", "bound"] (defScope s_one_turn) := ⟨rfl, rfl, rfl, by decide +kernel, rfl, by decide +kernel, by decide +kernel⟩
theorem ok_one_turn {P : Program} {w : World} {K : PySem.W.Frag} {mg : Str → Option Value} {base : Heap} (T : Txt K mg) :
    ∃ fd, FnG P w K mg base CX0 5 (He.ga K "one_turn") fd ["turn", "other", "bound"] (spF K 3 F_one_turn) ∧ FunD K "one_turn" "one_turn" (defArgs s_one_turn) (defBody s_one_turn) (defScope s_one_turn) [] [] (He.ga K "one_turn") fd := by
  obtain ⟨fd, F⟩ := T.f_one_turn
  obtain ⟨fd_plus, G_plus, K_plus⟩ := ok_plus (P := P) (w := w) (base := base) T
  obtain ⟨fd_over, G_over, K_over⟩ := ok_over (P := P) (w := w) (base := base) T
  obtain ⟨fd_part_of, G_part_of, K_part_of⟩ := ok_part_of (P := P) (w := w) (base := base) T
  obtain ⟨fd_times, G_times, K_times⟩ := ok_times (P := P) (w := w) (base := base) T
  obtain ⟨fd_mirror, G_mirror, K_mirror⟩ := ok_mirror (P := P) (w := w) (base := base) T
  have B_plus := K_plus.bindsN (ps := ["x", "y"]) fun _ _ _ _ _ _ us hl => match us, hl with | [_, _], _ => rfl
  have B_over := K_over.bindsN (ps := ["x", "y"]) fun _ _ _ _ _ _ us hl => match us, hl with | [_, _], _ => rfl
  have B_part_of := K_part_of.bindsN (ps := ["x", "fraction"]) fun _ _ _ _ _ _ us hl => match us, hl with | [_, _], _ => rfl
  have B_times := K_times.bindsN (ps := ["x", "y"]) fun _ _ _ _ _ _ us hl => match us, hl with | [_, _], _ => rfl
  have B_mirror := K_mirror.bindsN (ps := ["x"]) fun _ _ _ _ _ _ us hl => match us, hl with | [_], _ => rfl
  refine ⟨fd, fn_F F sc_one_turn rfl rfl fun cdv A outer s H E p hr hg => ⟨_, (dss_cons (ds_asg (de_tup (da_cons (dn 0) (da_cons (dn 1) da_nil))) (dv_tup rfl (dvs_cons (dv_tup rfl (dvs_cons (dv_name (i := 3) sc_one_turn.nd rfl (Or.inl rfl)) (dvs_cons (dv_name (i := 4) sc_one_turn.nd rfl (Or.inl rfl)) dvs_nil))) (dvs_cons (dv_tup rfl (dvs_cons (dv_name (i := 5) sc_one_turn.nd rfl (Or.inl rfl)) (dvs_cons (dv_name (i := 6) sc_one_turn.nd rfl (Or.inl rfl)) dvs_nil))) dvs_nil)))) (dss_cons (ds_set (i := 7) sc_one_turn.nd rfl (Or.inl rfl) (de_call G_plus mkF_ari (hr.mono (by decide)) hg rfl T.g_plus K_plus.kp B_plus pass0 (da_cons (dn 3) (da_cons (de_call G_part_of mkF_ari (hr.mono (by decide)) hg rfl T.g_part_of K_part_of.kp B_part_of pass0 (da_cons (de_call G_times mkF_ari (hr.mono (by decide)) hg rfl T.g_times K_times.kp B_times pass0 (da_cons (dn 6) (da_cons (de_call G_mirror mkF_ari (hr.mono (by decide)) hg rfl T.g_mirror K_mirror.kp B_mirror pass0 (da_cons (dn 4) da_nil)) da_nil))) (da_cons (dn 2) da_nil))) da_nil)))) (dss_cons (ds_set (i := 8) sc_one_turn.nd rfl (Or.inl rfl) (de_call G_over mkF_ari (hr.mono (by decide)) hg rfl T.g_over K_over.kp B_over pass0 (da_cons (de_call G_times mkF_ari (hr.mono (by decide)) hg rfl T.g_times K_times.kp B_times pass0 (da_cons (de_call G_times mkF_ari (hr.mono (by decide)) hg rfl T.g_times K_times.kp B_times pass0 (da_cons (dn 5) (da_cons (de_call G_mirror mkF_ari (hr.mono (by decide)) hg rfl T.g_mirror K_mirror.kp B_mirror pass0 (da_cons (dn 3) da_nil)) da_nil))) (da_cons (dn 7) da_nil))) (da_cons (de_call G_mirror mkF_ari (hr.mono (by decide)) hg rfl T.g_mirror K_mirror.kp B_mirror pass0 (da_cons (dn 7) da_nil)) da_nil)))) (dss_one (ds_ret (de_tup (da_cons (dn 8) (da_cons (de_call G_over mkF_ari (hr.mono (by decide)) hg rfl T.g_over K_over.kp B_over pass0 (da_cons (de_call G_plus mkF_ari (hr.mono (by decide)) hg rfl T.g_plus K_plus.kp B_plus pass0 (da_cons (de_call G_times mkF_ari (hr.mono (by decide)) hg rfl T.g_times K_times.kp B_times pass0 (da_cons (dn 3) (da_cons (dn 4) da_nil))) (da_cons (dn 6) da_nil))) (da_cons (dn 7) da_nil))) da_nil))))))))⟩, F⟩
theorem sc_back : FnScope ["turn"] ["turn"] (defScope s_back) := ⟨rfl, rfl, rfl, by decide +kernel, rfl, by decide +kernel, by decide +kernel⟩
theorem ok_back {P : Program} {w : World} {K : PySem.W.Frag} {mg : Str → Option Value} {base : Heap} (T : Txt K mg) :
    ∃ fd, FnG P w K mg base CX0 5 (He.ga K "back") fd ["turn"] (spF K 1 F_back) ∧ FunD K "back" "back" (defArgs s_back) (defBody s_back) (defScope s_back) [] [] (He.ga K "back") fd := by
  obtain ⟨fd, F⟩ := T.f_back
  obtain ⟨fd_back_of, G_back_of, K_back_of⟩ := ok_back_of (P := P) (w := w) (base := base) T
  obtain ⟨fd_is_any_turn, G_is_any_turn, K_is_any_turn⟩ := ok_is_any_turn (P := P) (w := w) (base := base) T
  have B_back_of := K_back_of.bindsN (ps := ["turn"]) fun _ _ _ _ _ _ us hl => match us, hl with | [_], _ => rfl
  have B_is_any_turn := K_is_any_turn.bindsN (ps := ["value"]) fun _ _ _ _ _ _ us hl => match us, hl with | [_], _ => rfl
  refine ⟨fd, fn_F F sc_back rfl rfl fun cdv A outer s H E p hr hg => ⟨_, (dss_cons (ds_if (dt_not (dt_tru (de_call G_is_any_turn mkF_ari (hr.mono (by decide)) hg rfl T.g_is_any_turn K_is_any_turn.kp B_is_any_turn pass0 (da_cons (dn 0) da_nil)))) (dss_one ds_never) dss_nil) (dss_one (ds_ret (de_call G_back_of mkF_ari (hr.mono (by decide)) hg rfl T.g_back_of K_back_of.kp B_back_of pass0 (da_cons (dn 0) da_nil)))))⟩, F⟩
theorem sc__law_quotient : FnScope ["top", "under", "first", "x"] ["top", "under"] (defScope s__law_quotient) := ⟨rfl, rfl, rfl, by decide +kernel, rfl, by decide +kernel, by decide +kernel⟩
theorem ok__law_quotient {P : Program} {w : World} {K : PySem.W.Frag} {mg : Str → Option Value} {base : Heap} (T : Txt K mg) :
    ∃ fd, FnG P w K mg base CX0 5 (He.ga K "_law_quotient") fd ["top", "under"] (spF K 2 F__law_quotient) ∧ FunD K "_law_quotient" "_law_quotient" (defArgs s__law_quotient) (defBody s__law_quotient) (defScope s__law_quotient) [] [] (He.ga K "_law_quotient") fd := by
  obtain ⟨fd, F⟩ := T.f__law_quotient
  obtain ⟨fd__law_line, G__law_line, K__law_line⟩ := ok__law_line (P := P) (w := w) (base := base) T
  obtain ⟨fd__law_over, G__law_over, K__law_over⟩ := ok__law_over (P := P) (w := w) (base := base) T
  have B__law_line := K__law_line.bindsN (ps := ["own"]) fun _ _ _ _ _ _ us hl => match us, hl with | [_], _ => rfl
  have B__law_over := K__law_over.bindsN (ps := ["x", "y"]) fun _ _ _ _ _ _ us hl => match us, hl with | [_, _], _ => rfl
  refine ⟨fd, fn_F F sc__law_quotient rfl rfl fun cdv A outer s H E p hr hg => ⟨_, (dss_cons (ds_set (i := 2) sc__law_quotient.nd rfl (Or.inr rfl) (de_ix do_ix (dn 1) de_int (fun _ _ => rfl))) (dss_one (ds_ret (de_tup (da_cons (de_call G__law_line mkF_ari (hr.mono (by decide)) hg rfl T.g__law_line K__law_line.kp B__law_line pass0 (da_cons (de_of (dm_lc (te := (tCall (spF K 2 F__law_over_2) [] (fun _ _ _ => False) (tCons (tVar 3) (tCons (tVar 2) tNil)))) (tt := tYes) (g := (gName 3)) s (own := [("x", 3)]) rfl sc__law_quotient.nd (DI.x (di_seq (dn 0))) (blkOk_by (own := [("x", 3)]) (N := ["top", "under", "first", "x"]) (sc := defScope s__law_quotient) (by decide +kernel)) rfl (fun _ _ _ _ _ => (dv_name (i := 3) sc__law_quotient.nd rfl (Or.inl rfl))) (fun _ _ _ _ _ => dts_nil) (fun _ _ _ _ _ => (de_call G__law_over mkF_ari (hr.mono (by decide)) hg rfl T.g__law_over K__law_over.kp B__law_over pass0 (da_cons (dn 3) (da_cons (dn 2) da_nil)))))) da_nil)) (da_cons (de_call G__law_line mkF_ari (hr.mono (by decide)) hg rfl T.g__law_line K__law_line.kp B__law_line pass0 (da_cons (de_of (dm_lc (te := (tCall (spF K 2 F__law_over_2) [] (fun _ _ _ => False) (tCons (tVar 3) (tCons (tVar 2) tNil)))) (tt := tYes) (g := (gName 3)) s (own := [("x", 3)]) rfl sc__law_quotient.nd (DI.x (di_seq (dn 1))) (blkOk_by (own := [("x", 3)]) (N := ["top", "under", "first", "x"]) (sc := defScope s__law_quotient) (by decide +kernel)) rfl (fun _ _ _ _ _ => (dv_name (i := 3) sc__law_quotient.nd rfl (Or.inl rfl))) (fun _ _ _ _ _ => dts_nil) (fun _ _ _ _ _ => (de_call G__law_over mkF_ari (hr.mono (by decide)) hg rfl T.g__law_over K__law_over.kp B__law_over pass0 (da_cons (dn 3) (da_cons (dn 2) da_nil)))))) da_nil)) da_nil))))))⟩, F⟩
theorem sc__law_drawn_turn : FnScope ["pot", "upto"] ["pot", "upto"] (defScope s__law_drawn_turn) := ⟨rfl, rfl, rfl, by decide +kernel, rfl, by decide +kernel, by decide +kernel⟩
theorem ok__law_drawn_turn {P : Program} {w : World} {K : PySem.W.Frag} {mg : Str → Option Value} {base : Heap} (T : Txt K mg) :
    ∃ fd, FnG P w K mg base CX0 5 (He.ga K "_law_drawn_turn") fd ["pot", "upto"] (spQ K 2 F__law_drawn_turn) ∧ FunD K "_law_drawn_turn" "_law_drawn_turn" (defArgs s__law_drawn_turn) (defBody s__law_drawn_turn) (defScope s__law_drawn_turn) [] [] (He.ga K "_law_drawn_turn") fd := by
  obtain ⟨fd, F⟩ := T.f__law_drawn_turn
  obtain ⟨fd__law_unit, G__law_unit, K__law_unit⟩ := ok__law_unit (P := P) (w := w) (base := base) T
  obtain ⟨fd__law_within, G__law_within, K__law_within⟩ := ok__law_within (P := P) (w := w) (base := base) T
  obtain ⟨fd__law_draw, G__law_draw, K__law_draw⟩ := ok__law_draw (P := P) (w := w) (base := base) T
  have B__law_unit := K__law_unit.bindsN (ps := ["pot"]) fun _ _ _ _ _ _ us hl => match us, hl with | [_], _ => rfl
  have B__law_within := K__law_within.bindsN (ps := ["pot", "upto"]) fun _ _ _ _ _ _ us hl => match us, hl with | [_, _], _ => rfl
  have B__law_draw := K__law_draw.bindsN (ps := ["pot", "many"]) fun _ _ _ _ _ _ us hl => match us, hl with | [_, _], _ => rfl
  refine ⟨fd, fn_Q F sc__law_drawn_turn rfl rfl fun cdv A outer s H E a hr hg => ⟨_, (dss_one (ds_ret (de_tup (da_cons (de_callQ G__law_unit mkQ_ari (hr.mono (by decide)) hg rfl T.g__law_unit K__law_unit.kp B__law_unit pass0 (pv 0) da_nil) (da_cons (de_if (dt_cmp (do_eq hr.units) (de_callQ G__law_draw mkQ_ari (hr.mono (by decide)) hg rfl T.g__law_draw K__law_draw.kp B__law_draw pass0 (pv 0) (da_cons de_int da_nil)) de_int (nomark _)) (de_tup (da_cons de_int (da_cons de_int (da_cons de_int da_nil)))) (de_callQ G__law_within mkQ_ari (hr.mono (by decide)) hg rfl T.g__law_within K__law_within.kp B__law_within pass0 (pv 0) (da_cons (dn 1) da_nil))) da_nil)))))⟩, F⟩
theorem sc__law_is_turn : FnScope ["thing", "upto"] ["thing", "upto"] (defScope s__law_is_turn) := ⟨rfl, rfl, rfl, by decide +kernel, rfl, by decide +kernel, by decide +kernel⟩
theorem ok__law_is_turn {P : Program} {w : World} {K : PySem.W.Frag} {mg : Str → Option Value} {base : Heap} (T : Txt K mg) :
    ∃ fd, FnG P w K mg base CX0 5 (He.ga K "_law_is_turn") fd ["thing", "upto"] (spF K 2 F__law_is_turn) ∧ FunD K "_law_is_turn" "_law_is_turn" (defArgs s__law_is_turn) (defBody s__law_is_turn) (defScope s__law_is_turn) [] [] (He.ga K "_law_is_turn") fd := by
  obtain ⟨fd, F⟩ := T.f__law_is_turn
  obtain ⟨fd__law_is_line, G__law_is_line, K__law_is_line⟩ := ok__law_is_line (P := P) (w := w) (base := base) T
  obtain ⟨fd__law_below, G__law_below, K__law_below⟩ := ok__law_below (P := P) (w := w) (base := base) T
  obtain ⟨fd__law_size, G__law_size, K__law_size⟩ := ok__law_size (P := P) (w := w) (base := base) T
  obtain ⟨fd__law_read, G__law_read, K__law_read⟩ := ok__law_read (P := P) (w := w) (base := base) T
  have B__law_is_line := K__law_is_line.bindsN (ps := ["thing", "many"]) fun _ _ _ _ _ _ us hl => match us, hl with | [_, _], _ => rfl
  have B__law_below := K__law_below.bindsN (ps := ["x", "upto"]) fun _ _ _ _ _ _ us hl => match us, hl with | [_, _], _ => rfl
  have B__law_size := K__law_size.bindsN (ps := ["x"]) fun _ _ _ _ _ _ us hl => match us, hl with | [_], _ => rfl
  have B__law_read := K__law_read.bindsN (ps := ["told"]) fun _ _ _ _ _ _ us hl => match us, hl with | [_], _ => rfl
  refine ⟨fd, fn_F F sc__law_is_turn rfl rfl fun cdv A outer s H E p hr hg => ⟨_, (dss_cons (ds_if (dt_not (dt_tru (de_call G__law_is_line mkF_ari (hr.mono (by decide)) hg rfl T.g__law_is_line K__law_is_line.kp B__law_is_line pass0 (da_cons (dn 0) (da_cons de_int da_nil))))) (dss_one (ds_ret de_bl)) dss_nil) (dss_one (ds_ret (de_and (de_cmp (do_eq hr.units) (de_call G__law_size mkF_ari (hr.mono (by decide)) hg rfl T.g__law_size K__law_size.kp B__law_size pass0 (da_cons (de_call G__law_read mkF_ari (hr.mono (by decide)) hg rfl T.g__law_read K__law_read.kp B__law_read pass0 (da_cons (de_ix do_ix (dn 0) de_int (fun _ _ => rfl)) da_nil)) da_nil)) (de_tup (da_cons de_int (da_cons de_int (da_cons de_int da_nil)))) (nomark _)) (de_one (de_call G__law_below mkF_ari (hr.mono (by decide)) hg rfl T.g__law_below K__law_below.kp B__law_below pass0 (da_cons (de_call G__law_read mkF_ari (hr.mono (by decide)) hg rfl T.g__law_read K__law_read.kp B__law_read pass0 (da_cons (de_ix do_ix (dn 0) de_int (fun _ _ => rfl)) da_nil)) (da_cons (dn 1) da_nil))))))))⟩, F⟩
theorem sc__law_numbers : FnScope ["pot", "c", "upto", "some"] ["pot", "c", "upto"] (defScope s__law_numbers) := ⟨rfl, rfl, rfl, by decide +kernel, rfl, by decide +kernel, by decide +kernel⟩
theorem ok__law_numbers {P : Program} {w : World} {K : PySem.W.Frag} {mg : Str → Option Value} {base : Heap} (T : Txt K mg) :
    ∃ fd, FnG P w K mg base CX0 5 (He.ga K "_law_numbers") fd ["pot", "c", "upto"] (spQ K 3 F__law_numbers) ∧ FunD K "_law_numbers" "_law_numbers" (defArgs s__law_numbers) (defBody s__law_numbers) (defScope s__law_numbers) [] [] (He.ga K "_law_numbers") fd := by
  obtain ⟨fd, F⟩ := T.f__law_numbers
  obtain ⟨fd__law_within, G__law_within, K__law_within⟩ := ok__law_within (P := P) (w := w) (base := base) T
  obtain ⟨fd__law_gauss, G__law_gauss, K__law_gauss⟩ := ok__law_gauss (P := P) (w := w) (base := base) T
  obtain ⟨fd__law_times, G__law_times, K__law_times⟩ := ok__law_times (P := P) (w := w) (base := base) T
  obtain ⟨fd__law_is_nought, G__law_is_nought, K__law_is_nought⟩ := ok__law_is_nought (P := P) (w := w) (base := base) T
  obtain ⟨fd__law_unit, G__law_unit, K__law_unit⟩ := ok__law_unit (P := P) (w := w) (base := base) T
  obtain ⟨fd__law_cut, G__law_cut, K__law_cut⟩ := ok__law_cut (P := P) (w := w) (base := base) T
  obtain ⟨fd__law_over, G__law_over, K__law_over⟩ := ok__law_over (P := P) (w := w) (base := base) T
  obtain ⟨fd__law_root, G__law_root, K__law_root⟩ := ok__law_root (P := P) (w := w) (base := base) T
  obtain ⟨fd__law_real, G__law_real, K__law_real⟩ := ok__law_real (P := P) (w := w) (base := base) T
  obtain ⟨fd__law_mirror, G__law_mirror, K__law_mirror⟩ := ok__law_mirror (P := P) (w := w) (base := base) T
  have B__law_within := K__law_within.bindsN (ps := ["pot", "upto"]) fun _ _ _ _ _ _ us hl => match us, hl with | [_, _], _ => rfl
  have B__law_gauss := K__law_gauss.bindsN (ps := ["pot"]) fun _ _ _ _ _ _ us hl => match us, hl with | [_], _ => rfl
  have B__law_times := K__law_times.bindsN (ps := ["x", "y"]) fun _ _ _ _ _ _ us hl => match us, hl with | [_, _], _ => rfl
  have B__law_is_nought := K__law_is_nought.bindsN (ps := ["x"]) fun _ _ _ _ _ _ us hl => match us, hl with | [_], _ => rfl
  have B__law_unit := K__law_unit.bindsN (ps := ["pot"]) fun _ _ _ _ _ _ us hl => match us, hl with | [_], _ => rfl
  have B__law_cut := K__law_cut.bindsN (ps := ["a", "b", "d"]) fun _ _ _ _ _ _ us hl => match us, hl with | [_, _, _], _ => rfl
  have B__law_over := K__law_over.bindsN (ps := ["x", "y"]) fun _ _ _ _ _ _ us hl => match us, hl with | [_, _], _ => rfl
  have B__law_root := K__law_root.bindsN (ps := ["n"]) fun _ _ _ _ _ _ us hl => match us, hl with | [_], _ => rfl
  have B__law_real := K__law_real.bindsN (ps := ["pair"]) fun _ _ _ _ _ _ us hl => match us, hl with | [_], _ => rfl
  have B__law_mirror := K__law_mirror.bindsN (ps := ["x"]) fun _ _ _ _ _ _ us hl => match us, hl with | [_], _ => rfl
  refine ⟨fd, fn_Q F sc__law_numbers rfl rfl fun cdv A outer s H E a hr hg => ⟨_, (dss_cons (ds_setM (i := 3) sc__law_numbers.nd rfl (Or.inl rfl) (dm_lst (da_cons (de_callQ G__law_within mkQ_ari (hr.mono (by decide)) hg rfl T.g__law_within K__law_within.kp B__law_within pass0 (pv 0) (da_cons (dn 2) da_nil)) (da_cons (de_callQ G__law_gauss mkQ_ari (hr.mono (by decide)) hg rfl T.g__law_gauss K__law_gauss.kp B__law_gauss pass0 (pv 0) da_nil) (da_cons (de_tup (da_cons de_int (da_cons de_int (da_cons de_int da_nil)))) (da_cons (dn 1) (da_cons (de_call G__law_times mkF_ari (hr.mono (by decide)) hg rfl T.g__law_times K__law_times.kp B__law_times pass0 (da_cons (de_callQ G__law_unit mkQ_ari (hr.mono (by decide)) hg rfl T.g__law_unit K__law_unit.kp B__law_unit pass0 (pv 0) da_nil) (da_cons (de_call G__law_cut mkF_ari (hr.mono (by decide)) hg rfl T.g__law_cut K__law_cut.kp B__law_cut pass0 (da_cons (de_call G__law_root mkF_ari (hr.mono (by decide)) hg rfl T.g__law_root K__law_root.kp B__law_root pass0 (da_cons (de_op do_mul (de_ix do_ix (dn 2) de_int (fun _ _ => rfl)) (de_ix do_ix (dn 2) de_int (fun _ _ => rfl))) da_nil)) (da_cons de_int (da_cons (de_ix do_ix (dn 2) de_int (fun _ _ => rfl)) da_nil)))) da_nil))) da_nil))))))) (dss_cons (ds_if (dt_not (dt_tru (de_call G__law_is_nought mkF_ari (hr.mono (by decide)) hg rfl T.g__law_is_nought K__law_is_nought.kp B__law_is_nought pass0 (da_cons (dn 1) da_nil)))) (dss_one (ds_app (i := 3) rfl (by first | exact Or.inl rfl | exact Or.inr (Or.inl rfl)) (de_call G__law_over mkF_ari (hr.mono (by decide)) hg rfl T.g__law_over K__law_over.kp B__law_over pass0 (da_cons (de_call G__law_real mkF_ari (hr.mono (by decide)) hg rfl T.g__law_real K__law_real.kp B__law_real pass0 (da_cons (dn 2) da_nil)) (da_cons (de_call G__law_mirror mkF_ari (hr.mono (by decide)) hg rfl T.g__law_mirror K__law_mirror.kp B__law_mirror pass0 (da_cons (dn 1) da_nil)) da_nil))))) dss_nil) (dss_froze 3 (dss_one (ds_ret (dn 3))))))⟩, F⟩
theorem sc_series_led : FnScope ["series", "turn", "bound", "unit", "centre", "drawn", "above", "below", "each"] ["series", "turn", "bound"] (defScope s_series_led) := ⟨rfl, rfl, rfl, by decide +kernel, rfl, by decide +kernel, by decide +kernel⟩
theorem ok_series_led {P : Program} {w : World} {K : PySem.W.Frag} {mg : Str → Option Value} {base : Heap} (T : Txt K mg) :
    ∃ fd, FnG P w K mg base CX0 6 (He.ga K "series_led") fd ["series", "turn", "bound"] (spF K 3 F_series_led) ∧ FunD K "series_led" "series_led" (defArgs s_series_led) (defBody s_series_led) (defScope s_series_led) [] [] (He.ga K "series_led") fd := by
  obtain ⟨fd, F⟩ := T.f_series_led
  obtain ⟨fd_part_of, G_part_of, K_part_of⟩ := ok_part_of (P := P) (w := w) (base := base) T
  obtain ⟨fd_plus, G_plus, K_plus⟩ := ok_plus (P := P) (w := w) (base := base) T
  obtain ⟨fd_mirror, G_mirror, K_mirror⟩ := ok_mirror (P := P) (w := w) (base := base) T
  obtain ⟨fd_times, G_times, K_times⟩ := ok_times (P := P) (w := w) (base := base) T
  obtain ⟨fd_series_over, G_series_over, K_series_over⟩ := ok_series_over (P := P) (w := w) (base := base) T
  obtain ⟨fd_less, G_less, K_less⟩ := ok_less (P := P) (w := w) (base := base) T
  have B_part_of := K_part_of.bindsN (ps := ["x", "fraction"]) fun _ _ _ _ _ _ us hl => match us, hl with | [_, _], _ => rfl
  have B_plus := K_plus.bindsN (ps := ["x", "y"]) fun _ _ _ _ _ _ us hl => match us, hl with | [_, _], _ => rfl
  have B_mirror := K_mirror.bindsN (ps := ["x"]) fun _ _ _ _ _ _ us hl => match us, hl with | [_], _ => rfl
  have B_times := K_times.bindsN (ps := ["x", "y"]) fun _ _ _ _ _ _ us hl => match us, hl with | [_, _], _ => rfl
  have B_series_over := K_series_over.bindsN (ps := ["p", "q"]) fun _ _ _ _ _ _ us hl => match us, hl with | [_, _], _ => rfl
  have B_less := K_less.bindsN (ps := ["x", "y"]) fun _ _ _ _ _ _ us hl => match us, hl with | [_, _], _ => rfl
  obtain ⟨⟨v_NOUGHT, u_NOUGHT, m_NOUGHT, r_NOUGHT, d_NOUGHT⟩⟩ := T.c_NOUGHT
  obtain ⟨⟨v_UNIT, u_UNIT, m_UNIT, r_UNIT, d_UNIT⟩⟩ := T.c_UNIT
  refine ⟨fd, fn_F F sc_series_led rfl rfl fun cdv A outer s H E p hr hg => ⟨_, (dss_cons (ds_asg (dn 1) (dv_tup rfl (dvs_cons (dv_name (i := 3) sc_series_led.nd rfl (Or.inr rfl)) (dvs_cons (dv_name (i := 4) sc_series_led.nd rfl (Or.inl rfl)) dvs_nil)))) (dss_cons (ds_set (i := 5) sc_series_led.nd rfl (Or.inr rfl) (de_call G_part_of mkF_ari (hr.mono (by decide)) hg rfl T.g_part_of K_part_of.kp B_part_of pass0 (da_cons (de_call G_mirror mkF_ari (hr.mono (by decide)) hg rfl T.g_mirror K_mirror.kp B_mirror pass0 (da_cons (dn 4) da_nil)) (da_cons (dn 2) da_nil)))) (dss_cons (ds_lcA (te := (tCall (spF K 2 F_times) [] (fun _ _ _ => False) (tCons (tVar 3) (tCons (tVar 8) tNil)))) (tt := tYes) (g := (gName 8)) s (i := 6) (own := [("each", 8)]) rfl sc_series_led.nd rfl rfl (sw_true rfl rfl rfl (by decide +kernel)) (DI.x (di_seq (de_op do_add (de_tup (da_cons (de_call G_less mkF_ari (hr.mono (by decide)) hg rfl T.g_less K_less.kp B_less pass0 (da_cons (de_ix do_ix (dn 0) de_int (fun _ _ => rfl)) (da_cons (dn 4) da_nil))) da_nil)) (de_sl (dn 0) (do_some de_int) do_none)))) (blkOk_by (own := [("each", 8)]) (N := ["series", "turn", "bound", "unit", "centre", "drawn", "above", "below", "each"]) (sc := defScope s_series_led) (by decide +kernel)) rfl (fun _ _ _ _ _ => (dv_name (i := 8) sc_series_led.nd rfl (Or.inl rfl))) (fun _ _ _ _ _ => dts_nil) (fun _ _ _ _ _ => (de_call G_times mkF_ari (hr.mono (by decide)) hg rfl T.g_times K_times.kp B_times pass0 (da_cons (dn 3) (da_cons (dn 8) da_nil))))) (dss_cons (ds_lcB (te := (tCall (spF K 2 F_times) [] (fun _ _ _ => False) (tCons (tCall (spF K 2 F_less) [] (fun _ _ _ => False) (tCons (tC v_NOUGHT) (tCons (tVar 5) tNil))) (tCons (tVar 8) tNil)))) (tt := tYes) (g := (gName 8)) s (i := 7) (own := [("each", 8)]) rfl sc_series_led.nd rfl rfl (sw_true rfl rfl rfl (by decide +kernel)) (DI.x (di_seq (dn 0))) (blkOk_by (own := [("each", 8)]) (N := ["series", "turn", "bound", "unit", "centre", "drawn", "above", "below", "each"]) (sc := defScope s_series_led) (by decide +kernel)) rfl (fun _ _ _ _ _ => (dv_name (i := 8) sc_series_led.nd rfl (Or.inl rfl))) (fun _ _ _ _ _ => dts_nil) (fun _ _ _ _ _ => (de_call G_times mkF_ari (hr.mono (by decide)) hg rfl T.g_times K_times.kp B_times pass0 (da_cons (de_call G_less mkF_ari (hr.mono (by decide)) hg rfl T.g_less K_less.kp B_less pass0 (da_cons (de_con rfl m_NOUGHT r_NOUGHT d_NOUGHT) (da_cons (dn 5) da_nil))) (da_cons (dn 8) da_nil))))) (dss_cons (ds_setI (i := 7) rfl (by first | exact Or.inl rfl | exact Or.inr (Or.inl rfl)) (de_call G_plus mkF_ari (hr.mono (by decide)) hg rfl T.g_plus K_plus.kp B_plus pass0 (da_cons (de_con rfl m_UNIT r_UNIT d_UNIT) (da_cons (de_ixV (i := 7) rfl (by first | exact Or.inl rfl | exact Or.inr (Or.inl rfl) | exact Or.inr (Or.inr rfl)) de_int (fun _ _ => rfl)) da_nil))) de_int) (dss_froze 7 (dss_one (ds_ret (de_if (dt_cmp (do_eq hr.units) (de_ixV (i := 7) rfl (by first | exact Or.inl rfl | exact Or.inr (Or.inl rfl) | exact Or.inr (Or.inr rfl)) de_int (fun _ _ => rfl)) (de_con rfl m_NOUGHT r_NOUGHT d_NOUGHT) (nomark _)) de_non (de_call G_series_over mkF_ari (hr.mono (by decide)) hg rfl T.g_series_over K_series_over.kp B_series_over pass0 (da_cons (dn 6) (da_cons (dn 7) da_nil))))))))))))⟩, F⟩
theorem sc_need_turn : FnScope ["given", "bound"] ["given", "bound"] (defScope s_need_turn) := ⟨rfl, rfl, rfl, by decide +kernel, rfl, by decide +kernel, by decide +kernel⟩
theorem ok_need_turn {P : Program} {w : World} {K : PySem.W.Frag} {mg : Str → Option Value} {base : Heap} (T : Txt K mg) :
    ∃ fd, FnG P w K mg base CX0 6 (He.ga K "need_turn") fd ["given", "bound"] (spF K 2 F_need_turn) ∧ FunD K "need_turn" "need_turn" (defArgs s_need_turn) (defBody s_need_turn) (defScope s_need_turn) [] [] (He.ga K "need_turn") fd := by
  obtain ⟨fd, F⟩ := T.f_need_turn
  obtain ⟨fd_is_turn_for, G_is_turn_for, K_is_turn_for⟩ := ok_is_turn_for (P := P) (w := w) (base := base) T
  have B_is_turn_for := K_is_turn_for.bindsN (ps := ["value", "bound"]) fun _ _ _ _ _ _ us hl => match us, hl with | [_, _], _ => rfl
  refine ⟨fd, fn_F F sc_need_turn rfl rfl fun cdv A outer s H E p hr hg => ⟨_, (dss_one (ds_if (dt_not (dt_tru (de_call G_is_turn_for mkF_ari (hr.mono (by decide)) hg rfl T.g_is_turn_for K_is_turn_for.kp B_is_turn_for pass0 (da_cons (dn 0) (da_cons (dn 1) da_nil))))) (dss_one ds_never) dss_nil))⟩, F⟩
theorem sc_is_turn : FnScope ["value", "bound"] ["value", "bound"] (defScope s_is_turn) := ⟨rfl, rfl, rfl, by decide +kernel, rfl, by decide +kernel, by decide +kernel⟩
theorem ok_is_turn {P : Program} {w : World} {K : PySem.W.Frag} {mg : Str → Option Value} {base : Heap} (T : Txt K mg) :
    ∃ fd, FnG P w K mg base CX0 6 (He.ga K "is_turn") fd ["value", "bound"] (spF K 2 F_is_turn) ∧ FunD K "is_turn" "is_turn" (defArgs s_is_turn) (defBody s_is_turn) (defScope s_is_turn) [.ref (He.dflAt ("is_turn", none) 0 K)] [] (He.ga K "is_turn") fd := by
  obtain ⟨fd, F⟩ := T.f_is_turn
  obtain ⟨fd_need_bound, G_need_bound, K_need_bound⟩ := ok_need_bound (P := P) (w := w) (base := base) T
  obtain ⟨fd_is_turn_for, G_is_turn_for, K_is_turn_for⟩ := ok_is_turn_for (P := P) (w := w) (base := base) T
  have B_need_bound := K_need_bound.bindsN (ps := ["given"]) fun _ _ _ _ _ _ us hl => match us, hl with | [_], _ => rfl
  have B_is_turn_for := K_is_turn_for.bindsN (ps := ["value", "bound"]) fun _ _ _ _ _ _ us hl => match us, hl with | [_, _], _ => rfl
  refine ⟨fd, fn_F F sc_is_turn rfl rfl fun cdv A outer s H E p hr hg => ⟨_, (dss_cons (ds_expr (de_call G_need_bound mkF_ari (hr.mono (by decide)) hg rfl T.g_need_bound K_need_bound.kp B_need_bound pass0 (da_cons (dn 1) da_nil))) (dss_one (ds_ret (de_call G_is_turn_for mkF_ari (hr.mono (by decide)) hg rfl T.g_is_turn_for K_is_turn_for.kp B_is_turn_for pass0 (da_cons (dn 0) (da_cons (dn 1) da_nil))))))⟩, F⟩
theorem sc_led_to : FnScope ["turn", "number", "bound", "found"] ["turn", "number", "bound"] (defScope s_led_to) := ⟨rfl, rfl, rfl, by decide +kernel, rfl, by decide +kernel, by decide +kernel⟩
theorem ok_led_to {P : Program} {w : World} {K : PySem.W.Frag} {mg : Str → Option Value} {base : Heap} (T : Txt K mg) :
    ∃ fd, FnG P w K mg base CX0 7 (He.ga K "led_to") fd ["turn", "number", "bound"] (spF K 3 F_led_to) ∧ FunD K "led_to" "led_to" (defArgs s_led_to) (defBody s_led_to) (defScope s_led_to) [] [] (He.ga K "led_to") fd := by
  obtain ⟨fd, F⟩ := T.f_led_to
  obtain ⟨fd_series_led, G_series_led, K_series_led⟩ := ok_series_led (P := P) (w := w) (base := base) T
  have B_series_led := K_series_led.bindsN (ps := ["series", "turn", "bound"]) fun _ _ _ _ _ _ us hl => match us, hl with | [_, _, _], _ => rfl
  refine ⟨fd, fn_F F sc_led_to rfl rfl fun cdv A outer s H E p hr hg => ⟨_, (dss_cons (ds_set (i := 3) sc_led_to.nd rfl (Or.inl rfl) (de_call G_series_led mkF_ari (hr.mono (by decide)) hg rfl T.g_series_led K_series_led.kp B_series_led pass0 (da_cons (de_tup (da_cons (dn 1) da_nil)) (da_cons (dn 0) (da_cons (dn 2) da_nil))))) (dss_one (ds_ret (de_if (dt_cmp do_isN (dn 3) de_non (nomark _)) de_non (de_ix do_ix (dn 3) de_int (fun _ _ => rfl))))))⟩, F⟩
theorem sc_behind : FnScope ["turn", "other", "bound"] ["turn", "other", "bound"] (defScope s_behind) := ⟨rfl, rfl, rfl, by decide +kernel, rfl, by decide +kernel, by decide +kernel⟩
theorem ok_behind {P : Program} {w : World} {K : PySem.W.Frag} {mg : Str → Option Value} {base : Heap} (T : Txt K mg) :
    ∃ fd, FnG P w K mg base CX0 7 (He.ga K "behind") fd ["turn", "other", "bound"] (spF K 3 F_behind) ∧ FunD K "behind" "behind" (defArgs s_behind) (defBody s_behind) (defScope s_behind) [.ref (He.dflAt ("behind", none) 0 K)] [] (He.ga K "behind") fd := by
  obtain ⟨fd, F⟩ := T.f_behind
  obtain ⟨fd_need_bound, G_need_bound, K_need_bound⟩ := ok_need_bound (P := P) (w := w) (base := base) T
  obtain ⟨fd_need_turn, G_need_turn, K_need_turn⟩ := ok_need_turn (P := P) (w := w) (base := base) T
  obtain ⟨fd_one_turn, G_one_turn, K_one_turn⟩ := ok_one_turn (P := P) (w := w) (base := base) T
  have B_need_bound := K_need_bound.bindsN (ps := ["given"]) fun _ _ _ _ _ _ us hl => match us, hl with | [_], _ => rfl
  have B_need_turn := K_need_turn.bindsN (ps := ["given", "bound"]) fun _ _ _ _ _ _ us hl => match us, hl with | [_, _], _ => rfl
  have B_one_turn := K_one_turn.bindsN (ps := ["turn", "other", "bound"]) fun _ _ _ _ _ _ us hl => match us, hl with | [_, _, _], _ => rfl
  refine ⟨fd, fn_F F sc_behind rfl rfl fun cdv A outer s H E p hr hg => ⟨_, (dss_cons (ds_expr (de_call G_need_bound mkF_ari (hr.mono (by decide)) hg rfl T.g_need_bound K_need_bound.kp B_need_bound pass0 (da_cons (dn 2) da_nil))) (dss_cons (ds_expr (de_call G_need_turn mkF_ari (hr.mono (by decide)) hg rfl T.g_need_turn K_need_turn.kp B_need_turn pass0 (da_cons (dn 0) (da_cons (dn 2) da_nil)))) (dss_cons (ds_expr (de_call G_need_turn mkF_ari (hr.mono (by decide)) hg rfl T.g_need_turn K_need_turn.kp B_need_turn pass0 (da_cons (dn 1) (da_cons (dn 2) da_nil)))) (dss_one (ds_ret (de_call G_one_turn mkF_ari (hr.mono (by decide)) hg rfl T.g_one_turn K_one_turn.kp B_one_turn pass0 (da_cons (dn 0) (da_cons (dn 1) (da_cons (dn 2) da_nil)))))))))⟩, F⟩
theorem sc_turn_quotient : FnScope ["turn", "bound", "unit", "centre", "drawn"] ["turn", "bound"] (defScope s_turn_quotient) := ⟨rfl, rfl, rfl, by decide +kernel, rfl, by decide +kernel, by decide +kernel⟩
theorem ok_turn_quotient {P : Program} {w : World} {K : PySem.W.Frag} {mg : Str → Option Value} {base : Heap} (T : Txt K mg) :
    ∃ fd, FnG P w K mg base CX0 7 (He.ga K "turn_quotient") fd ["turn", "bound"] (spF K 2 F_turn_quotient) ∧ FunD K "turn_quotient" "turn_quotient" (defArgs s_turn_quotient) (defBody s_turn_quotient) (defScope s_turn_quotient) [.ref (He.dflAt ("turn_quotient", none) 0 K)] [] (He.ga K "turn_quotient") fd := by
  obtain ⟨fd, F⟩ := T.f_turn_quotient
  obtain ⟨fd_need_bound, G_need_bound, K_need_bound⟩ := ok_need_bound (P := P) (w := w) (base := base) T
  obtain ⟨fd_need_turn, G_need_turn, K_need_turn⟩ := ok_need_turn (P := P) (w := w) (base := base) T
  obtain ⟨fd_part_of, G_part_of, K_part_of⟩ := ok_part_of (P := P) (w := w) (base := base) T
  obtain ⟨fd_mirror, G_mirror, K_mirror⟩ := ok_mirror (P := P) (w := w) (base := base) T
  obtain ⟨fd_trimmed, G_trimmed, K_trimmed⟩ := ok_trimmed (P := P) (w := w) (base := base) T
  obtain ⟨fd_less, G_less, K_less⟩ := ok_less (P := P) (w := w) (base := base) T
  obtain ⟨fd_times, G_times, K_times⟩ := ok_times (P := P) (w := w) (base := base) T
  have B_need_bound := K_need_bound.bindsN (ps := ["given"]) fun _ _ _ _ _ _ us hl => match us, hl with | [_], _ => rfl
  have B_need_turn := K_need_turn.bindsN (ps := ["given", "bound"]) fun _ _ _ _ _ _ us hl => match us, hl with | [_, _], _ => rfl
  have B_part_of := K_part_of.bindsN (ps := ["x", "fraction"]) fun _ _ _ _ _ _ us hl => match us, hl with | [_, _], _ => rfl
  have B_mirror := K_mirror.bindsN (ps := ["x"]) fun _ _ _ _ _ _ us hl => match us, hl with | [_], _ => rfl
  have B_trimmed := K_trimmed.bindsN (ps := ["numbers"]) fun _ _ _ _ _ _ us hl => match us, hl with | [_], _ => rfl
  have B_less := K_less.bindsN (ps := ["x", "y"]) fun _ _ _ _ _ _ us hl => match us, hl with | [_, _], _ => rfl
  have B_times := K_times.bindsN (ps := ["x", "y"]) fun _ _ _ _ _ _ us hl => match us, hl with | [_, _], _ => rfl
  obtain ⟨⟨v_NOUGHT, u_NOUGHT, m_NOUGHT, r_NOUGHT, d_NOUGHT⟩⟩ := T.c_NOUGHT
  obtain ⟨⟨v_UNIT, u_UNIT, m_UNIT, r_UNIT, d_UNIT⟩⟩ := T.c_UNIT
  refine ⟨fd, fn_F F sc_turn_quotient rfl rfl fun cdv A outer s H E p hr hg => ⟨_, (dss_cons (ds_expr (de_call G_need_bound mkF_ari (hr.mono (by decide)) hg rfl T.g_need_bound K_need_bound.kp B_need_bound pass0 (da_cons (dn 1) da_nil))) (dss_cons (ds_expr (de_call G_need_turn mkF_ari (hr.mono (by decide)) hg rfl T.g_need_turn K_need_turn.kp B_need_turn pass0 (da_cons (dn 0) (da_cons (dn 1) da_nil)))) (dss_cons (ds_asg (dn 0) (dv_tup rfl (dvs_cons (dv_name (i := 2) sc_turn_quotient.nd rfl (Or.inl rfl)) (dvs_cons (dv_name (i := 3) sc_turn_quotient.nd rfl (Or.inl rfl)) dvs_nil)))) (dss_cons (ds_set (i := 4) sc_turn_quotient.nd rfl (Or.inl rfl) (de_call G_part_of mkF_ari (hr.mono (by decide)) hg rfl T.g_part_of K_part_of.kp B_part_of pass0 (da_cons (de_call G_mirror mkF_ari (hr.mono (by decide)) hg rfl T.g_mirror K_mirror.kp B_mirror pass0 (da_cons (dn 3) da_nil)) (da_cons (dn 1) da_nil)))) (dss_one (ds_ret (de_tup (da_cons (de_tup (da_cons (de_call G_less mkF_ari (hr.mono (by decide)) hg rfl T.g_less K_less.kp B_less pass0 (da_cons (de_con rfl m_NOUGHT r_NOUGHT d_NOUGHT) (da_cons (de_call G_times mkF_ari (hr.mono (by decide)) hg rfl T.g_times K_times.kp B_times pass0 (da_cons (dn 2) (da_cons (dn 3) da_nil))) da_nil))) (da_cons (dn 2) da_nil))) (da_cons (de_call G_trimmed mkF_ari (hr.mono (by decide)) hg rfl T.g_trimmed K_trimmed.kp B_trimmed pass0 (da_cons (de_tup (da_cons (de_con rfl m_UNIT r_UNIT d_UNIT) (da_cons (de_call G_less mkF_ari (hr.mono (by decide)) hg rfl T.g_less K_less.kp B_less pass0 (da_cons (de_con rfl m_NOUGHT r_NOUGHT d_NOUGHT) (da_cons (dn 4) da_nil))) da_nil))) da_nil)) da_nil)))))))))⟩, F⟩
theorem sc_led : FnScope ["turn", "number", "bound"] ["turn", "number", "bound"] (defScope s_led) := ⟨rfl, rfl, rfl, by decide +kernel, rfl, by decide +kernel, by decide +kernel⟩
theorem ok_led {P : Program} {w : World} {K : PySem.W.Frag} {mg : Str → Option Value} {base : Heap} (T : Txt K mg) :
    ∃ fd, FnG P w K mg base CX0 8 (He.ga K "led") fd ["turn", "number", "bound"] (spF K 3 F_led) ∧ FunD K "led" "led" (defArgs s_led) (defBody s_led) (defScope s_led) [.ref (He.dflAt ("led", none) 0 K)] [] (He.ga K "led") fd := by
  obtain ⟨fd, F⟩ := T.f_led
  obtain ⟨fd_need_bound, G_need_bound, K_need_bound⟩ := ok_need_bound (P := P) (w := w) (base := base) T
  obtain ⟨fd_need_turn, G_need_turn, K_need_turn⟩ := ok_need_turn (P := P) (w := w) (base := base) T
  obtain ⟨fd_need_number, G_need_number, K_need_number⟩ := ok_need_number (P := P) (w := w) (base := base) T
  obtain ⟨fd_led_to, G_led_to, K_led_to⟩ := ok_led_to (P := P) (w := w) (base := base) T
  have B_need_bound := K_need_bound.bindsN (ps := ["given"]) fun _ _ _ _ _ _ us hl => match us, hl with | [_], _ => rfl
  have B_need_turn := K_need_turn.bindsN (ps := ["given", "bound"]) fun _ _ _ _ _ _ us hl => match us, hl with | [_, _], _ => rfl
  have B_need_number := K_need_number.bindsN (ps := ["given"]) fun _ _ _ _ _ _ us hl => match us, hl with | [_], _ => rfl
  have B_led_to := K_led_to.bindsN (ps := ["turn", "number", "bound"]) fun _ _ _ _ _ _ us hl => match us, hl with | [_, _, _], _ => rfl
  refine ⟨fd, fn_F F sc_led rfl rfl fun cdv A outer s H E p hr hg => ⟨_, (dss_cons (ds_expr (de_call G_need_bound mkF_ari (hr.mono (by decide)) hg rfl T.g_need_bound K_need_bound.kp B_need_bound pass0 (da_cons (dn 2) da_nil))) (dss_cons (ds_expr (de_call G_need_turn mkF_ari (hr.mono (by decide)) hg rfl T.g_need_turn K_need_turn.kp B_need_turn pass0 (da_cons (dn 0) (da_cons (dn 2) da_nil)))) (dss_cons (ds_expr (de_call G_need_number mkF_ari (hr.mono (by decide)) hg rfl T.g_need_number K_need_number.kp B_need_number pass0 (da_cons (dn 1) da_nil))) (dss_one (ds_ret (de_call G_led_to mkF_ari (hr.mono (by decide)) hg rfl T.g_led_to K_led_to.kp B_led_to pass0 (da_cons (dn 0) (da_cons (dn 1) (da_cons (dn 2) da_nil)))))))))⟩, F⟩
theorem sc__law_led_right : FnScope ["one", "far", "upto", "some", "told", "way_back", "both", "u", "c", "x", "there"] ["one", "far", "upto", "some"] (defScope s__law_led_right) := ⟨rfl, rfl, rfl, by decide +kernel, rfl, by decide +kernel, by decide +kernel⟩
theorem ok__law_led_right {P : Program} {w : World} {K : PySem.W.Frag} {mg : Str → Option Value} {base : Heap} (T : Txt K mg) :
    ∃ fd, FnG P w K mg base CX0 9 (He.ga K "_law_led_right") fd ["one", "far", "upto", "some"] (spF K 4 F__law_led_right) ∧ FunD K "_law_led_right" "_law_led_right" (defArgs s__law_led_right) (defBody s__law_led_right) (defScope s__law_led_right) [] [] (He.ga K "_law_led_right") fd := by
  obtain ⟨fd, F⟩ := T.f__law_led_right
  obtain ⟨fd__law_turn, G__law_turn, K__law_turn⟩ := ok__law_turn (P := P) (w := w) (base := base) T
  obtain ⟨fd_behind, G_behind, K_behind⟩ := ok_behind (P := P) (w := w) (base := base) T
  obtain ⟨fd__law_number, G__law_number, K__law_number⟩ := ok__law_number (P := P) (w := w) (base := base) T
  obtain ⟨fd__law_read, G__law_read, K__law_read⟩ := ok__law_read (P := P) (w := w) (base := base) T
  obtain ⟨fd__law_leads, G__law_leads, K__law_leads⟩ := ok__law_leads (P := P) (w := w) (base := base) T
  obtain ⟨fd__law_mirror, G__law_mirror, K__law_mirror⟩ := ok__law_mirror (P := P) (w := w) (base := base) T
  obtain ⟨fd__law_less, G__law_less, K__law_less⟩ := ok__law_less (P := P) (w := w) (base := base) T
  obtain ⟨fd__law_is_turn, G__law_is_turn, K__law_is_turn⟩ := ok__law_is_turn (P := P) (w := w) (base := base) T
  obtain ⟨fd__law_times, G__law_times, K__law_times⟩ := ok__law_times (P := P) (w := w) (base := base) T
  obtain ⟨fd_back, G_back, K_back⟩ := ok_back (P := P) (w := w) (base := base) T
  obtain ⟨fd_led, G_led, K_led⟩ := ok_led (P := P) (w := w) (base := base) T
  obtain ⟨fd__law_maybe, G__law_maybe, K__law_maybe⟩ := ok__law_maybe (P := P) (w := w) (base := base) T
  have B__law_turn := K__law_turn.bindsN (ps := ["u", "c"]) fun _ _ _ _ _ _ us hl => match us, hl with | [_, _], _ => rfl
  obtain ⟨ds_behind_3, V_behind_3, B_behind_3⟩ := K_behind.binds1 (ps := ["turn", "other", "bound"]) 3 1 (by simp) (by simp) fun _ _ _ _ _ _ _ us its h1 h2 => match us, h1, its, h2 with | [_, _, _], _, [_], _ => ⟨_, rfl, rfl⟩
  have B__law_number := K__law_number.bindsN (ps := ["x"]) fun _ _ _ _ _ _ us hl => match us, hl with | [_], _ => rfl
  have B__law_read := K__law_read.bindsN (ps := ["told"]) fun _ _ _ _ _ _ us hl => match us, hl with | [_], _ => rfl
  have B__law_leads := K__law_leads.bindsN (ps := ["u", "c", "upto", "z"]) fun _ _ _ _ _ _ us hl => match us, hl with | [_, _, _, _], _ => rfl
  have B__law_mirror := K__law_mirror.bindsN (ps := ["x"]) fun _ _ _ _ _ _ us hl => match us, hl with | [_], _ => rfl
  have B__law_less := K__law_less.bindsN (ps := ["x", "y"]) fun _ _ _ _ _ _ us hl => match us, hl with | [_, _], _ => rfl
  have B__law_is_turn := K__law_is_turn.bindsN (ps := ["thing", "upto"]) fun _ _ _ _ _ _ us hl => match us, hl with | [_, _], _ => rfl
  have B__law_times := K__law_times.bindsN (ps := ["x", "y"]) fun _ _ _ _ _ _ us hl => match us, hl with | [_, _], _ => rfl
  have KB_behind_bound_other_turn := kb_dfl (ps := ["turn", "other", "bound"]) K_behind (by simp) ["bound", "other", "turn"] kp_3_210 kp_3_210_rel fun _ _ _ _ _ _ _ ws its h1 h2 => match ws, h1, its, h2 with | [_, _, _], _, [_], _ => ⟨_, rfl, rfl⟩
  have B_back := K_back.bindsN (ps := ["turn"]) fun _ _ _ _ _ _ us hl => match us, hl with | [_], _ => rfl
  have KB_back_turn := kb_none (ps := ["turn"]) K_back ["turn"] kp_1_0 kp_1_0_rel fun _ _ _ _ _ _ ws h1 => match ws, h1 with | [_], _ => rfl
  obtain ⟨ds_led_3, V_led_3, B_led_3⟩ := K_led.binds1 (ps := ["turn", "number", "bound"]) 3 1 (by simp) (by simp) fun _ _ _ _ _ _ _ us its h1 h2 => match us, h1, its, h2 with | [_, _, _], _, [_], _ => ⟨_, rfl, rfl⟩
  have KB_led_bound_number_turn := kb_dfl (ps := ["turn", "number", "bound"]) K_led (by simp) ["bound", "number", "turn"] kp_3_210 kp_3_210_rel fun _ _ _ _ _ _ _ ws its h1 h2 => match ws, h1, its, h2 with | [_, _, _], _, [_], _ => ⟨_, rfl, rfl⟩
  have B__law_maybe := K__law_maybe.bindsN (ps := ["x"]) fun _ _ _ _ _ _ us hl => match us, hl with | [_], _ => rfl
  refine ⟨fd, fn_F F sc__law_led_right rfl rfl fun cdv A outer s H E p hr hg => ⟨_, (dss_cons (ds_set (i := 4) sc__law_led_right.nd rfl (Or.inl rfl) (de_call G__law_turn mkF_ari (hr.mono (by decide)) hg rfl T.g__law_turn K__law_turn.kp B__law_turn pass0 (da_cons (de_ix do_ix (dn 0) de_int (fun _ _ => rfl)) (da_cons (de_ix do_ix (dn 0) de_int (fun _ _ => rfl)) da_nil)))) (dss_cons (ds_set (i := 5) sc__law_led_right.nd rfl (Or.inl rfl) (de_tup (da_cons (de_call G__law_number mkF_ari (hr.mono (by decide)) hg rfl T.g__law_number K__law_number.kp B__law_number pass0 (da_cons (de_call G__law_mirror mkF_ari (hr.mono (by decide)) hg rfl T.g__law_mirror K__law_mirror.kp B__law_mirror pass0 (da_cons (de_ix do_ix (dn 0) de_int (fun _ _ => rfl)) da_nil)) da_nil)) (da_cons (de_call G__law_number mkF_ari (hr.mono (by decide)) hg rfl T.g__law_number K__law_number.kp B__law_number pass0 (da_cons (de_call G__law_less mkF_ari (hr.mono (by decide)) hg rfl T.g__law_less K__law_less.kp B__law_less pass0 (da_cons (de_tup (da_cons de_int (da_cons de_int (da_cons de_int da_nil)))) (da_cons (de_call G__law_times mkF_ari (hr.mono (by decide)) hg rfl T.g__law_times K__law_times.kp B__law_times pass0 (da_cons (de_ix do_ix (dn 0) de_int (fun _ _ => rfl)) (da_cons (de_ix do_ix (dn 0) de_int (fun _ _ => rfl)) da_nil))) da_nil))) da_nil)) da_nil)))) (dss_cons (ds_if (dt_w (dw_or (dt_cmp (do_ne hr.units) (de_cb (db_repr hg hr.units) rfl T.b_repr (by decide +kernel) (da_cons (de_of (dm_lst (da_cons (de_call G_back mkF_ari (hr.mono (by decide)) hg rfl T.g_back K_back.kp B_back pass0 (da_cons (dn 4) da_nil)) (da_cons (de_callK G_back mkF_ari kp_1_0_dat (hr.mono (by decide)) hg rfl T.g_back K_back.kp KB_back_turn pass0 (dk_cons (dn 4) dk_nil)) da_nil)))) da_nil)) (de_cb (db_repr hg hr.units) rfl T.b_repr (by decide +kernel) (da_cons (de_of (dm_rep (dm_lst (da_cons (dn 5) da_nil)) de_int)) da_nil)) (nomark _)) (dw_or1 (dt_not (dt_tru (de_call G__law_is_turn mkF_ari (hr.mono (by decide)) hg rfl T.g__law_is_turn K__law_is_turn.kp B__law_is_turn pass0 (da_cons (dn 5) (da_cons (dn 2) da_nil)))))))) (dss_one (ds_ret de_bl)) dss_nil) (dss_cons (ds_set (i := 6) sc__law_led_right.nd rfl (Or.inl rfl) (de_callD (dd := []) G_behind mkF_ari (fun _ => .nil) (hr.mono (by decide)) hg rfl T.g_behind K_behind.kp B_behind_3 V_behind_3 pass0 (da_cons (dn 4) (da_cons (de_call G__law_turn mkF_ari (hr.mono (by decide)) hg rfl T.g__law_turn K__law_turn.kp B__law_turn pass0 (da_cons (de_ix do_ix (dn 1) de_int (fun _ _ => rfl)) (da_cons (de_ix do_ix (dn 1) de_int (fun _ _ => rfl)) da_nil))) (da_cons (dn 2) da_nil))))) (dss_cons (ds_if (dt_w (dw_or (dt_not (dt_tru (de_call G__law_is_turn mkF_ari (hr.mono (by decide)) hg rfl T.g__law_is_turn K__law_is_turn.kp B__law_is_turn pass0 (da_cons (dn 6) (da_cons (dn 2) da_nil))))) (dw_or1 (dt_cmp (do_ne hr.units) (de_cb (db_repr hg hr.units) rfl T.b_repr (by decide +kernel) (da_cons (de_callK G_behind mkF_ari kp_3_210_dat (hr.mono (by decide)) hg rfl T.g_behind K_behind.kp KB_behind_bound_other_turn pass0 (dk_cons (dn 2) (dk_cons (de_call G__law_turn mkF_ari (hr.mono (by decide)) hg rfl T.g__law_turn K__law_turn.kp B__law_turn pass0 (da_cons (de_ix do_ix (dn 1) de_int (fun _ _ => rfl)) (da_cons (de_ix do_ix (dn 1) de_int (fun _ _ => rfl)) da_nil))) (dk_cons (dn 4) dk_nil)))) da_nil)) (de_cb (db_repr hg hr.units) rfl T.b_repr (by decide +kernel) (da_cons (dn 6) da_nil)) (nomark _))))) (dss_one (ds_ret de_bl)) dss_nil) (dss_cons (ds_par (i := 7) (j := 8) rfl sc__law_led_right.nd rfl rfl (by decide) rfl rfl (da_cons (de_call G__law_read mkF_ari (hr.mono (by decide)) hg rfl T.g__law_read K__law_read.kp B__law_read pass0 (da_cons (de_ix do_ix (dn 6) de_int (fun _ _ => rfl)) da_nil)) (da_cons (de_call G__law_read mkF_ari (hr.mono (by decide)) hg rfl T.g__law_read K__law_read.kp B__law_read pass0 (da_cons (de_ix do_ix (dn 6) de_int (fun _ _ => rfl)) da_nil)) da_nil)) rfl) (dss_cons (ds_for PassesOwn.never rfl (di_seq (dn 3)) (dv_name (i := 9) sc__law_led_right.nd rfl (Or.inl rfl)) (dss_cons (ds_set (i := 10) sc__law_led_right.nd rfl (Or.inl rfl) (de_call G__law_leads mkF_ari (hr.mono (by decide)) hg rfl T.g__law_leads K__law_leads.kp B__law_leads pass0 (da_cons (de_ix do_ix (dn 0) de_int (fun _ _ => rfl)) (da_cons (de_ix do_ix (dn 0) de_int (fun _ _ => rfl)) (da_cons (dn 2) (da_cons (dn 9) da_nil)))))) (dss_cons (ds_if (dt_cmp (do_ne hr.units) (de_cb (db_repr hg hr.units) rfl T.b_repr (by decide +kernel) (da_cons (de_of (dm_lst (da_cons (de_callD (dd := []) G_led mkF_ari (fun _ => .nil) (hr.mono (by decide)) hg rfl T.g_led K_led.kp B_led_3 V_led_3 pass0 (da_cons (dn 4) (da_cons (de_call G__law_number mkF_ari (hr.mono (by decide)) hg rfl T.g__law_number K__law_number.kp B__law_number pass0 (da_cons (dn 9) da_nil)) (da_cons (dn 2) da_nil)))) (da_cons (de_callK G_led mkF_ari kp_3_210_dat (hr.mono (by decide)) hg rfl T.g_led K_led.kp KB_led_bound_number_turn pass0 (dk_cons (dn 2) (dk_cons (de_call G__law_number mkF_ari (hr.mono (by decide)) hg rfl T.g__law_number K__law_number.kp B__law_number pass0 (da_cons (dn 9) da_nil)) (dk_cons (dn 4) dk_nil)))) da_nil)))) da_nil)) (de_cb (db_repr hg hr.units) rfl T.b_repr (by decide +kernel) (da_cons (de_of (dm_rep (dm_lst (da_cons (de_call G__law_maybe mkF_ari (hr.mono (by decide)) hg rfl T.g__law_maybe K__law_maybe.kp B__law_maybe pass0 (da_cons (dn 10) da_nil)) da_nil)) de_int)) da_nil)) (nomark _)) (dss_one (ds_ret de_bl)) dss_nil) (dss_cons (ds_if (dt_w (dw_and (dt_cmp do_notN (dn 10) de_non (nomark _)) (dw_and1 (dt_cmp (do_ne hr.units) (de_cb (db_repr hg hr.units) rfl T.b_repr (by decide +kernel) (da_cons (de_callD (dd := []) G_led mkF_ari (fun _ => .nil) (hr.mono (by decide)) hg rfl T.g_led K_led.kp B_led_3 V_led_3 pass0 (da_cons (dn 5) (da_cons (de_call G__law_number mkF_ari (hr.mono (by decide)) hg rfl T.g__law_number K__law_number.kp B__law_number pass0 (da_cons (dn 10) da_nil)) (da_cons (dn 2) da_nil)))) da_nil)) (de_cb (db_repr hg hr.units) rfl T.b_repr (by decide +kernel) (da_cons (de_call G__law_number mkF_ari (hr.mono (by decide)) hg rfl T.g__law_number K__law_number.kp B__law_number pass0 (da_cons (dn 9) da_nil)) da_nil)) (nomark _))))) (dss_one (ds_ret de_bl)) dss_nil) (dss_cons (ds_if (dt_w (dw_and (dt_cmp do_notN (dn 10) de_non (nomark _)) (dw_and1 (dt_cmp (do_ne hr.units) (de_call G__law_leads mkF_ari (hr.mono (by decide)) hg rfl T.g__law_leads K__law_leads.kp B__law_leads pass0 (da_cons (dn 7) (da_cons (dn 8) (da_cons (dn 2) (da_cons (dn 9) da_nil))))) (de_call G__law_leads mkF_ari (hr.mono (by decide)) hg rfl T.g__law_leads K__law_leads.kp B__law_leads pass0 (da_cons (de_ix do_ix (dn 1) de_int (fun _ _ => rfl)) (da_cons (de_ix do_ix (dn 1) de_int (fun _ _ => rfl)) (da_cons (dn 2) (da_cons (dn 10) da_nil))))) (nomark _))))) (dss_one (ds_ret de_bl)) dss_nil) (dss_one (ds_if (dt_w (dw_and (dt_cmp do_notN (dn 10) de_non (nomark _)) (dw_and1 (dt_cmp (do_ne hr.units) (de_cb (db_repr hg hr.units) rfl T.b_repr (by decide +kernel) (da_cons (de_callD (dd := []) G_led mkF_ari (fun _ => .nil) (hr.mono (by decide)) hg rfl T.g_led K_led.kp B_led_3 V_led_3 pass0 (da_cons (dn 6) (da_cons (de_call G__law_number mkF_ari (hr.mono (by decide)) hg rfl T.g__law_number K__law_number.kp B__law_number pass0 (da_cons (dn 9) da_nil)) (da_cons (dn 2) da_nil)))) da_nil)) (de_cb (db_repr hg hr.units) rfl T.b_repr (by decide +kernel) (da_cons (de_call G__law_maybe mkF_ari (hr.mono (by decide)) hg rfl T.g__law_maybe K__law_maybe.kp B__law_maybe pass0 (da_cons (de_call G__law_leads mkF_ari (hr.mono (by decide)) hg rfl T.g__law_leads K__law_leads.kp B__law_leads pass0 (da_cons (dn 7) (da_cons (dn 8) (da_cons (dn 2) (da_cons (dn 9) da_nil))))) da_nil)) da_nil)) (nomark _))))) (dss_one (ds_ret de_bl)) dss_nil))))))) (dss_one (ds_ret de_bl)))))))))⟩, F⟩
theorem sc__law_right : FnScope ["pot", "upto", "one", "far", "told", "top", "under", "due", "more", "plain", "x"] ["pot"] (defScope s__law_right) := ⟨rfl, rfl, rfl, by decide +kernel, rfl, by decide +kernel, by decide +kernel⟩
theorem ok__law_right {P : Program} {w : World} {K : PySem.W.Frag} {mg : Str → Option Value} {base : Heap} (T : Txt K mg) :
    ∃ fd, FnG P w K mg base CX0 10 (He.ga K "_law_right") fd ["pot"] (spQ K 1 F__law_right_47) ∧ FunD K "_law_right" "_law_right" (defArgs s__law_right) (defBody s__law_right) (defScope s__law_right) [] [] (He.ga K "_law_right") fd := by
  obtain ⟨fd, F⟩ := T.f__law_right
  obtain ⟨fd__law_turn, G__law_turn, K__law_turn⟩ := ok__law_turn (P := P) (w := w) (base := base) T
  obtain ⟨fd__law_turn_rows, G__law_turn_rows, K__law_turn_rows⟩ := ok__law_turn_rows (P := P) (w := w) (base := base) T
  obtain ⟨fd__law_quotient, G__law_quotient, K__law_quotient⟩ := ok__law_quotient (P := P) (w := w) (base := base) T
  obtain ⟨fd__law_drawn_turn, G__law_drawn_turn, K__law_drawn_turn⟩ := ok__law_drawn_turn (P := P) (w := w) (base := base) T
  obtain ⟨fd__law_bound, G__law_bound, K__law_bound⟩ := ok__law_bound (P := P) (w := w) (base := base) T
  obtain ⟨fd__law_led_right, G__law_led_right, K__law_led_right⟩ := ok__law_led_right (P := P) (w := w) (base := base) T
  obtain ⟨fd__law_row_cut, G__law_row_cut, K__law_row_cut⟩ := ok__law_row_cut (P := P) (w := w) (base := base) T
  obtain ⟨fd__law_place, G__law_place, K__law_place⟩ := ok__law_place (P := P) (w := w) (base := base) T
  obtain ⟨fd__law_draw, G__law_draw, K__law_draw⟩ := ok__law_draw (P := P) (w := w) (base := base) T
  obtain ⟨fd__law_numbers, G__law_numbers, K__law_numbers⟩ := ok__law_numbers (P := P) (w := w) (base := base) T
  obtain ⟨fd_is_turn, G_is_turn, K_is_turn⟩ := ok_is_turn (P := P) (w := w) (base := base) T
  obtain ⟨fd__law_is_turn, G__law_is_turn, K__law_is_turn⟩ := ok__law_is_turn (P := P) (w := w) (base := base) T
  obtain ⟨fd_turn_quotient, G_turn_quotient, K_turn_quotient⟩ := ok_turn_quotient (P := P) (w := w) (base := base) T
  obtain ⟨fd_led, G_led, K_led⟩ := ok_led (P := P) (w := w) (base := base) T
  obtain ⟨fd__law_maybe, G__law_maybe, K__law_maybe⟩ := ok__law_maybe (P := P) (w := w) (base := base) T
  obtain ⟨fd_behind, G_behind, K_behind⟩ := ok_behind (P := P) (w := w) (base := base) T
  obtain ⟨fd__law_number, G__law_number, K__law_number⟩ := ok__law_number (P := P) (w := w) (base := base) T
  obtain ⟨fd__law_leads, G__law_leads, K__law_leads⟩ := ok__law_leads (P := P) (w := w) (base := base) T
  have B__law_turn := K__law_turn.bindsN (ps := ["u", "c"]) fun _ _ _ _ _ _ us hl => match us, hl with | [_, _], _ => rfl
  have B__law_turn_rows := K__law_turn_rows.bindsN (ps := ["u", "c", "upto"]) fun _ _ _ _ _ _ us hl => match us, hl with | [_, _, _], _ => rfl
  have B__law_quotient := K__law_quotient.bindsN (ps := ["top", "under"]) fun _ _ _ _ _ _ us hl => match us, hl with | [_, _], _ => rfl
  have B__law_drawn_turn := K__law_drawn_turn.bindsN (ps := ["pot", "upto"]) fun _ _ _ _ _ _ us hl => match us, hl with | [_, _], _ => rfl
  have B__law_bound := K__law_bound.bindsN (ps := ["pot"]) fun _ _ _ _ _ _ us hl => match us, hl with | [_], _ => rfl
  have B__law_led_right := K__law_led_right.bindsN (ps := ["one", "far", "upto", "some"]) fun _ _ _ _ _ _ us hl => match us, hl with | [_, _, _, _], _ => rfl
  have B__law_row_cut := K__law_row_cut.bindsN (ps := ["line"]) fun _ _ _ _ _ _ us hl => match us, hl with | [_], _ => rfl
  have B__law_place := K__law_place.bindsN (ps := ["pot"]) fun _ _ _ _ _ _ us hl => match us, hl with | [_], _ => rfl
  have B__law_draw := K__law_draw.bindsN (ps := ["pot", "many"]) fun _ _ _ _ _ _ us hl => match us, hl with | [_, _], _ => rfl
  have B__law_numbers := K__law_numbers.bindsN (ps := ["pot", "c", "upto"]) fun _ _ _ _ _ _ us hl => match us, hl with | [_, _, _], _ => rfl
  obtain ⟨ds_is_turn_1, V_is_turn_1, B_is_turn_1⟩ := K_is_turn.binds1 (ps := ["value", "bound"]) 1 0 (by simp) (by simp) fun _ _ _ _ _ _ _ us its h1 h2 => match us, h1, its, h2 with | [_], _, [_], _ => ⟨_, rfl, rfl⟩
  have D_is_turn_1 : ∀ G, DpAll K G (List.drop 0 [.ref (He.dflAt ("is_turn", none) 0 K)]) [.tuple [.int 1, .int 1]] := fun G => .cons (T.v_is_turn_0 G) (.nil)
  have B__law_is_turn := K__law_is_turn.bindsN (ps := ["thing", "upto"]) fun _ _ _ _ _ _ us hl => match us, hl with | [_, _], _ => rfl
  obtain ⟨ds_is_turn_2, V_is_turn_2, B_is_turn_2⟩ := K_is_turn.binds1 (ps := ["value", "bound"]) 2 1 (by simp) (by simp) fun _ _ _ _ _ _ _ us its h1 h2 => match us, h1, its, h2 with | [_, _], _, [_], _ => ⟨_, rfl, rfl⟩
  have KB_is_turn_bound_value := kb_dfl (ps := ["value", "bound"]) K_is_turn (by simp) ["bound", "value"] kp_2_10 kp_2_10_rel fun _ _ _ _ _ _ _ ws its h1 h2 => match ws, h1, its, h2 with | [_, _], _, [_], _ => ⟨_, rfl, rfl⟩
  obtain ⟨ds_turn_quotient_2, V_turn_quotient_2, B_turn_quotient_2⟩ := K_turn_quotient.binds1 (ps := ["turn", "bound"]) 2 1 (by simp) (by simp) fun _ _ _ _ _ _ _ us its h1 h2 => match us, h1, its, h2 with | [_, _], _, [_], _ => ⟨_, rfl, rfl⟩
  have KB_turn_quotient_bound_turn := kb_dfl (ps := ["turn", "bound"]) K_turn_quotient (by simp) ["bound", "turn"] kp_2_10 kp_2_10_rel fun _ _ _ _ _ _ _ ws its h1 h2 => match ws, h1, its, h2 with | [_, _], _, [_], _ => ⟨_, rfl, rfl⟩
  obtain ⟨ds_led_2, V_led_2, B_led_2⟩ := K_led.binds1 (ps := ["turn", "number", "bound"]) 2 0 (by simp) (by simp) fun _ _ _ _ _ _ _ us its h1 h2 => match us, h1, its, h2 with | [_, _], _, [_], _ => ⟨_, rfl, rfl⟩
  have D_led_2 : ∀ G, DpAll K G (List.drop 0 [.ref (He.dflAt ("led", none) 0 K)]) [.tuple [.int 1, .int 1]] := fun G => .cons (T.v_led_0 G) (.nil)
  have B__law_maybe := K__law_maybe.bindsN (ps := ["x"]) fun _ _ _ _ _ _ us hl => match us, hl with | [_], _ => rfl
  obtain ⟨ds_behind_2, V_behind_2, B_behind_2⟩ := K_behind.binds1 (ps := ["turn", "other", "bound"]) 2 0 (by simp) (by simp) fun _ _ _ _ _ _ _ us its h1 h2 => match us, h1, its, h2 with | [_, _], _, [_], _ => ⟨_, rfl, rfl⟩
  have D_behind_2 : ∀ G, DpAll K G (List.drop 0 [.ref (He.dflAt ("behind", none) 0 K)]) [.tuple [.int 1, .int 1]] := fun G => .cons (T.v_behind_0 G) (.nil)
  obtain ⟨ds_turn_quotient_1, V_turn_quotient_1, B_turn_quotient_1⟩ := K_turn_quotient.binds1 (ps := ["turn", "bound"]) 1 0 (by simp) (by simp) fun _ _ _ _ _ _ _ us its h1 h2 => match us, h1, its, h2 with | [_], _, [_], _ => ⟨_, rfl, rfl⟩
  have D_turn_quotient_1 : ∀ G, DpAll K G (List.drop 0 [.ref (He.dflAt ("turn_quotient", none) 0 K)]) [.tuple [.int 1, .int 1]] := fun G => .cons (T.v_turn_quotient_0 G) (.nil)
  obtain ⟨ds_behind_3, V_behind_3, B_behind_3⟩ := K_behind.binds1 (ps := ["turn", "other", "bound"]) 3 1 (by simp) (by simp) fun _ _ _ _ _ _ _ us its h1 h2 => match us, h1, its, h2 with | [_, _, _], _, [_], _ => ⟨_, rfl, rfl⟩
  have B__law_number := K__law_number.bindsN (ps := ["x"]) fun _ _ _ _ _ _ us hl => match us, hl with | [_], _ => rfl
  have B__law_leads := K__law_leads.bindsN (ps := ["u", "c", "upto", "z"]) fun _ _ _ _ _ _ us hl => match us, hl with | [_, _, _, _], _ => rfl
  refine ⟨fd, fn_Q F sc__law_right rfl rfl fun cdv A outer s H E a hr hg => ⟨_, (dss_cons (ds_set (i := 1) sc__law_right.nd rfl (Or.inl rfl) (de_if (dt_cmp (do_eq hr.units) (de_callQ G__law_draw mkQ_ari (hr.mono (by decide)) hg rfl T.g__law_draw K__law_draw.kp B__law_draw pass0 (pv 0) (da_cons de_int da_nil)) de_int (nomark _)) (de_tup (da_cons de_int (da_cons de_int da_nil))) (de_callQ G__law_bound mkQ_ari (hr.mono (by decide)) hg rfl T.g__law_bound K__law_bound.kp B__law_bound pass0 (pv 0) da_nil))) (dss_cons (ds_par (i := 2) (j := 3) rfl sc__law_right.nd rfl rfl (by decide) rfl rfl (da_cons (de_callQ G__law_drawn_turn mkQ_ari (hr.mono (by decide)) hg rfl T.g__law_drawn_turn K__law_drawn_turn.kp B__law_drawn_turn pass0 (pv 0) (da_cons (dn 1) da_nil)) (da_cons (de_callQ G__law_drawn_turn mkQ_ari (hr.mono (by decide)) hg rfl T.g__law_drawn_turn K__law_drawn_turn.kp B__law_drawn_turn pass0 (pv 0) (da_cons (dn 1) da_nil)) da_nil)) rfl) (dss_cons (ds_set (i := 4) sc__law_right.nd rfl (Or.inl rfl) (de_call G__law_turn mkF_ari (hr.mono (by decide)) hg rfl T.g__law_turn K__law_turn.kp B__law_turn pass0 (da_cons (de_ix do_ix (dn 2) de_int (fun _ _ => rfl)) (da_cons (de_ix do_ix (dn 2) de_int (fun _ _ => rfl)) da_nil)))) (dss_cons (ds_if (dt_cmp (do_ne hr.units) (de_cb (db_repr hg hr.units) rfl T.b_repr (by decide +kernel) (da_cons (de_of (dm_lst (da_cons (de_callD (dd := []) G_is_turn mkF_ari (fun _ => .nil) (hr.mono (by decide)) hg rfl T.g_is_turn K_is_turn.kp B_is_turn_2 V_is_turn_2 pass0 (da_cons (dn 4) (da_cons (dn 1) da_nil))) (da_cons (de_callK G_is_turn mkF_ari kp_2_10_dat (hr.mono (by decide)) hg rfl T.g_is_turn K_is_turn.kp KB_is_turn_bound_value pass0 (dk_cons (dn 1) (dk_cons (dn 4) dk_nil))) da_nil)))) da_nil)) (de_cb (db_repr hg hr.units) rfl T.b_repr (by decide +kernel) (da_cons (de_of (dm_lst (da_cons de_bl (da_cons de_bl da_nil)))) da_nil)) (nomark _)) (dss_one (ds_ret de_bl)) dss_nil) (dss_cons (ds_if (dt_not (dt_tru (de_call G__law_led_right mkF_ari (hr.mono (by decide)) hg rfl T.g__law_led_right K__law_led_right.kp B__law_led_right pass0 (da_cons (dn 2) (da_cons (dn 3) (da_cons (dn 1) (da_cons (de_callQ G__law_numbers mkQ_ari (hr.mono (by decide)) hg rfl T.g__law_numbers K__law_numbers.kp B__law_numbers pass0 (pv 0) (da_cons (de_ix do_ix (dn 2) de_int (fun _ _ => rfl)) (da_cons (dn 1) da_nil))) da_nil))))))) (dss_one (ds_ret de_bl)) dss_nil) (dss_cons (ds_asg (de_call G__law_turn_rows mkF_ari (hr.mono (by decide)) hg rfl T.g__law_turn_rows K__law_turn_rows.kp B__law_turn_rows pass0 (da_cons (de_ix do_ix (dn 2) de_int (fun _ _ => rfl)) (da_cons (de_ix do_ix (dn 2) de_int (fun _ _ => rfl)) (da_cons (dn 1) da_nil)))) (dv_tup rfl (dvs_cons (dv_name (i := 5) sc__law_right.nd rfl (Or.inl rfl)) (dvs_cons (dv_name (i := 6) sc__law_right.nd rfl (Or.inl rfl)) dvs_nil)))) (dss_cons (ds_set (i := 7) sc__law_right.nd rfl (Or.inl rfl) (de_call G__law_quotient mkF_ari (hr.mono (by decide)) hg rfl T.g__law_quotient K__law_quotient.kp B__law_quotient pass0 (da_cons (de_call G__law_row_cut mkF_ari (hr.mono (by decide)) hg rfl T.g__law_row_cut K__law_row_cut.kp B__law_row_cut pass0 (da_cons (dn 5) da_nil)) (da_cons (de_call G__law_row_cut mkF_ari (hr.mono (by decide)) hg rfl T.g__law_row_cut K__law_row_cut.kp B__law_row_cut pass0 (da_cons (dn 6) da_nil)) da_nil)))) (dss_cons (ds_if (dt_cmp (do_ne hr.units) (de_cb (db_repr hg hr.units) rfl T.b_repr (by decide +kernel) (da_cons (de_of (dm_lst (da_cons (de_callD (dd := []) G_turn_quotient mkF_ari (fun _ => .nil) (hr.mono (by decide)) hg rfl T.g_turn_quotient K_turn_quotient.kp B_turn_quotient_2 V_turn_quotient_2 pass0 (da_cons (dn 4) (da_cons (dn 1) da_nil))) (da_cons (de_callK G_turn_quotient mkF_ari kp_2_10_dat (hr.mono (by decide)) hg rfl T.g_turn_quotient K_turn_quotient.kp KB_turn_quotient_bound_turn pass0 (dk_cons (dn 1) (dk_cons (dn 4) dk_nil))) da_nil)))) da_nil)) (de_cb (db_repr hg hr.units) rfl T.b_repr (by decide +kernel) (da_cons (de_of (dm_lst (da_cons (dn 7) (da_cons (dn 7) da_nil)))) da_nil)) (nomark _)) (dss_one (ds_ret de_bl)) dss_nil) (dss_cons (ds_set (i := 8) sc__law_right.nd rfl (Or.inl rfl) (de_callQ G__law_drawn_turn mkQ_ari (hr.mono (by decide)) hg rfl T.g__law_drawn_turn K__law_drawn_turn.kp B__law_drawn_turn pass0 (pv 0) (da_cons (de_tup (da_cons de_int (da_cons de_int da_nil))) da_nil))) (dss_cons (ds_par (i := 9) (j := 10) rfl sc__law_right.nd rfl rfl (by decide) rfl rfl (da_cons (de_call G__law_turn mkF_ari (hr.mono (by decide)) hg rfl T.g__law_turn K__law_turn.kp B__law_turn pass0 (da_cons (de_ix do_ix (dn 8) de_int (fun _ _ => rfl)) (da_cons (de_ix do_ix (dn 8) de_int (fun _ _ => rfl)) da_nil))) (da_cons (de_callQ G__law_place mkQ_ari (hr.mono (by decide)) hg rfl T.g__law_place K__law_place.kp B__law_place pass0 (pv 0) da_nil) da_nil)) rfl) (dss_cons (ds_if (dt_w (dw_or (dt_cmp do_notN (de_callD (dd := [.tuple [.int 1, .int 1]]) G_is_turn mkF_ari D_is_turn_1 (hr.mono (by decide)) hg rfl T.g_is_turn K_is_turn.kp B_is_turn_1 V_is_turn_1 pass0 (da_cons (dn 9) da_nil)) de_bl (nomark _)) (dw_or1 (dt_cmp (do_ne hr.units) (de_cb (db_repr hg hr.units) rfl T.b_repr (by decide +kernel) (da_cons (de_callD (dd := [.tuple [.int 1, .int 1]]) G_led mkF_ari D_led_2 (hr.mono (by decide)) hg rfl T.g_led K_led.kp B_led_2 V_led_2 pass0 (da_cons (dn 9) (da_cons (de_call G__law_number mkF_ari (hr.mono (by decide)) hg rfl T.g__law_number K__law_number.kp B__law_number pass0 (da_cons (dn 10) da_nil)) da_nil))) da_nil)) (de_cb (db_repr hg hr.units) rfl T.b_repr (by decide +kernel) (da_cons (de_call G__law_maybe mkF_ari (hr.mono (by decide)) hg rfl T.g__law_maybe K__law_maybe.kp B__law_maybe pass0 (da_cons (de_call G__law_leads mkF_ari (hr.mono (by decide)) hg rfl T.g__law_leads K__law_leads.kp B__law_leads pass0 (da_cons (de_ix do_ix (dn 8) de_int (fun _ _ => rfl)) (da_cons (de_ix do_ix (dn 8) de_int (fun _ _ => rfl)) (da_cons (de_tup (da_cons de_int (da_cons de_int da_nil))) (da_cons (dn 10) da_nil))))) da_nil)) da_nil)) (nomark _))))) (dss_one (ds_ret de_bl)) dss_nil) (dss_cons (ds_if (dt_cmp (do_ne hr.units) (de_cb (db_repr hg hr.units) rfl T.b_repr (by decide +kernel) (da_cons (de_callD (dd := [.tuple [.int 1, .int 1]]) G_is_turn mkF_ari D_is_turn_1 (hr.mono (by decide)) hg rfl T.g_is_turn K_is_turn.kp B_is_turn_1 V_is_turn_1 pass0 (da_cons (dn 4) da_nil)) da_nil)) (de_cb (db_repr hg hr.units) rfl T.b_repr (by decide +kernel) (da_cons (de_call G__law_is_turn mkF_ari (hr.mono (by decide)) hg rfl T.g__law_is_turn K__law_is_turn.kp B__law_is_turn pass0 (da_cons (dn 4) (da_cons (de_tup (da_cons de_int (da_cons de_int da_nil))) da_nil))) da_nil)) (nomark _)) (dss_one (ds_ret de_bl)) dss_nil) (dss_one (ds_ret (de_cmp (do_eq hr.units) (de_cb (db_repr hg hr.units) rfl T.b_repr (by decide +kernel) (da_cons (de_of (dm_lst (da_cons (de_callD (dd := [.tuple [.int 1, .int 1]]) G_behind mkF_ari D_behind_2 (hr.mono (by decide)) hg rfl T.g_behind K_behind.kp B_behind_2 V_behind_2 pass0 (da_cons (dn 9) (da_cons (dn 9) da_nil))) (da_cons (de_callD (dd := [.tuple [.int 1, .int 1]]) G_turn_quotient mkF_ari D_turn_quotient_1 (hr.mono (by decide)) hg rfl T.g_turn_quotient K_turn_quotient.kp B_turn_quotient_1 V_turn_quotient_1 pass0 (da_cons (dn 9) da_nil)) da_nil)))) da_nil)) (de_cb (db_repr hg hr.units) rfl T.b_repr (by decide +kernel) (da_cons (de_of (dm_lst (da_cons (de_callD (dd := []) G_behind mkF_ari (fun _ => .nil) (hr.mono (by decide)) hg rfl T.g_behind K_behind.kp B_behind_3 V_behind_3 pass0 (da_cons (dn 9) (da_cons (dn 9) (da_cons (de_tup (da_cons de_int (da_cons de_int da_nil))) da_nil)))) (da_cons (de_callD (dd := []) G_turn_quotient mkF_ari (fun _ => .nil) (hr.mono (by decide)) hg rfl T.g_turn_quotient K_turn_quotient.kp B_turn_quotient_2 V_turn_quotient_2 pass0 (da_cons (dn 9) (da_cons (de_tup (da_cons de_int (da_cons de_int da_nil))) da_nil))) da_nil)))) da_nil)) (nomark _))))))))))))))))⟩, F⟩
theorem sc_law : FnScope ["script", "lap"] ["script"] (defScope s_law) := ⟨rfl, rfl, rfl, by decide +kernel, rfl, by decide +kernel, by decide +kernel⟩
theorem ok_law {P : Program} {w : World} {K : PySem.W.Frag} {mg : Str → Option Value} {base : Heap} {fd : FuncData} (T : Txt K mg) (hlaw : ∀ ns : List Int, ns.length ≤ 63 → b_law_47 (ends [.list (ns.map .int)] 1) ⟨fun _ => False, fun d => d = .bool true, Nev, Nev⟩) (F : FunD K "law" "law" (defArgs s_law) (defBody s_law) (defScope s_law) [] [] (He.ga K "law") fd) :
    FnG P w K mg base CX0 11 (He.ga K "law") fd ["script"] (spLaw K) := by
  obtain ⟨fd__law_right, G__law_right, K__law_right⟩ := ok__law_right (P := P) (w := w) (base := base) T
  obtain ⟨fd__law_pot, G__law_pot, K__law_pot⟩ := ok__law_pot (P := P) (w := w) (base := base) T
  have B__law_right := K__law_right.bindsN (ps := ["pot"]) fun _ _ _ _ _ _ us hl => match us, hl with | [_], _ => rfl
  have B__law_pot := K__law_pot.bindsN (ps := ["script", "lap"]) fun _ _ _ _ _ _ us hl => match us, hl with | [_, _], _ => rfl
  refine fn_law F sc_law rfl rfl hlaw fun cdv A outer s H E hr hg => ⟨_, (dss_cons (ds_for PassesOwn.never rfl (di_range1 rfl T.b_range (da_cons (de_cb (db_max rfl) rfl T.b_max (by decide +kernel) (da_cons de_int (da_cons (de_cb (db_min rfl) rfl T.b_min (by decide +kernel) (da_cons (de_cb db_len rfl T.b_len (by decide +kernel) (da_cons (dn 0) da_nil)) (da_cons de_int da_nil))) da_nil))) da_nil)) (dv_name (i := 1) sc_law.nd rfl (Or.inl rfl)) (dss_one (ds_if (dt_not (dt_tru (de_turn G__law_right (hr.mono (by decide)) hg rfl T.g__law_right K__law_right.kp B__law_right pass0 G__law_pot (hr.mono (by decide)) rfl T.g__law_pot K__law_pot.kp B__law_pot pass0 (da_cons (dn 0) (da_cons (dn 1) da_nil))))) (dss_one (ds_ret de_bl)) dss_nil))) (dss_one (ds_ret de_bl)))⟩
end Rim
namespace Rim
open PySem PySem.Spec L2
theorem facts {P : Program} {w : World} {K : PySem.W.Frag} {h : Heap} {mg : Str → Option Value} {f : Addr} (X : K.In h) (G : h.Ns mainGlobals mg) (hfa : mg ("law" : Str) = some (.ref f)) (c : He.SaysX fas fns [] [] (exB2 cons imps dfts) w h K) :
    ∃ fd : FuncData, (∀ (s : Shared) (v : Value), BindsTo s fd ⟨[v], []⟩ [("script", v)]) ∧ ∀ base : Heap, K.In base → base.Ns mainGlobals mg → FnG P w K mg base CX0 11 f fd ["script"] (spLaw K) := by
  have T := txt_of X G c
  have e := hfa.symm.trans T.g_law
  cases e
  obtain ⟨fd, F⟩ := T.f_law
  have b := FunD.bindsA (ps := ["script"]) F fun _ _ _ _ _ _ us hl => match us, hl with | [_], _ => rfl
  exact ⟨fd, fun s v => b s [v] rfl, fun base _ _ => ok_law T law_true_k46 F⟩
end Rim
open PySem PySem.W PySem.Calls PyProof.Rows
set_option maxRecDepth 100000 in
set_option maxHeartbeats 0 in
theorem PySem.Challenge.cw_withinrim_k46_whole_turns_led_back_and_b_holds : PySem.Challenge.rw_withinrim_k46_whole_turns_led_back_and_b.Holds := by
  w_on; o_law
  refine HandSHeadRun.head_imp (r := OpenLaw.row PySem.Challenge.rw_withinrim_k46_whole_turns_led_back_and_b) (q := view (OpenLaw.row PySem.Challenge.rw_withinrim_k46_whole_turns_led_back_and_b).prog [0, 84]) (H := Rim.hk) (ob := Rim.ob) (M := 6000) (loose := Rim.names) (d := HandSHeadRun.topDef (OpenLaw.row PySem.Challenge.rw_withinrim_k46_whole_turns_led_back_and_b).prog 84) (kwd := []) Rim.ob_eq Rim.run
    (by kernel_rfl) (by kernel_rfl) (by kernel_rfl) (by rfl) (by first | assumption | decide +kernel) (by decide +kernel) ⟨rfl, rfl, rfl, rfl, rfl, by decide +kernel⟩ ?hw ?hc
  case hw => w_witness2
  case hc =>
    refine Rim.walk_ofG (l := PySem.Challenge.rw_withinrim_k46_whole_turns_led_back_and_b) (n := 63) (k := 11) (x := "script") rfl (by decide) (by kernel_rfl) ⟨rfl, by decide, by decide⟩ ?F
    intro w mg fa h Y G hmg0
    obtain ⟨K, KX, c⟩ := Y
    have hmg : mg ("law" : PySem.Str) = some (.ref fa) := by
      have e : (HandSHeadRun.topDef (OpenLaw.row PySem.Challenge.rw_withinrim_k46_whole_turns_led_back_and_b).prog 84).name = ("law" : PySem.Str) := by kernel_rfl
      rw [← e]
      exact hmg0
    obtain ⟨fd, hb, hF⟩ := Rim.facts (P := (PySem.Challenge.rw_withinrim_k46_whole_turns_led_back_and_b).prog) (w := w) KX G hmg c
    exact ⟨K, fd, Rim.spLaw K, KX, hb, fun H a ns hl _ hS => ⟨rfl, a, ns, rfl, hS, hl, fun _ => rfl⟩, hF⟩
