import PyProof.Rows.All
import Wide.All
import OpenK.AllK
import Wide.FinOn
import HandS.ForMost
import HandS.EndBits
import HandS.IsInst
import HandS.Walk
import HandS.Wide
import HandS.TupLe
import PyProof.ReprRoads
import PyProof.Rows.RuleB_pow
import PySem.Challenge.RW_maskwrites_k01_names_and_values
set_option Elab.async false
set_option linter.all false
set_option maxRecDepth 100000
set_option maxHeartbeats 4000000
/-! My own rules: promises of defs that are called where no repr is under way; repr of data; great ints; the well of draws. -/
namespace Zk
open PySem PySem.Spec PyProof.Rows L2

/-! ### promises under «no repr is under way» -/
structure GOk (P : Program) (w : World) (K : PySem.W.Frag) (mg : Str → Option Value) (base : Heap) (CX : CXT) (k : Nat) (f : Addr) (fd : FuncData) (ps : List Str) (sp : Sp) : Prop where
  len : ∀ vs H Q E, sp vs H Q E → vs.length = ps.length
  go : ∀ (A : Around) (out : List Env) (s : Shared) (H : Hp) (ar : Args) (us : List Value) (vs : List V) (Q : VK) (E : XK), A.guards = some [] → Room k A → Env0 P w K mg base A out s H →
    BindsTo s fd ar (ps.zip us) → Vals vs us → sp vs H Q E → codeAny (model P w) A (.call (.ref f) ar) (CR CX out P w H s Q E) s

section
variable {CX : CXT} {P : Program} {w : World} {K : PySem.W.Frag} {mg : Str → Option Value} {base : Heap} {k : Nat} {f : Addr} {fd : FuncData} {ps : List Str} {sp : Sp}
theorem GOk.of (F : FnOk P w K mg base CX k f fd ps sp) : GOk P w K mg base CX k f fd ps sp :=
  ⟨F.len, fun A out s H ar us vs Q E _ => F.run A out s H ar us vs Q E⟩
theorem GOk.mono {j : Nat} (F : GOk P w K mg base CX j f fd ps sp) (h : j ≤ k) : GOk P w K mg base CX k f fd ps sp :=
  ⟨F.len, fun A out s H ar us vs Q E g hr => F.go A out s H ar us vs Q E g (hr.mono h)⟩
theorem GOk.imp {sp2 : Sp} (F : GOk P w K mg base CX k f fd ps sp) (h : ∀ vs H Q E, sp2 vs H Q E → sp vs H Q E) : GOk P w K mg base CX k f fd ps sp2 :=
  ⟨fun vs H Q E q => F.len vs H Q E (h _ _ _ _ q), fun A out s H ar us vs Q E g hr e b v q => F.go A out s H ar us vs Q E g hr e b v (h _ _ _ _ q)⟩
end

/-- the body of a def, walked where no repr is under way -/
theorem gn_of {CX : CXT} {P : Program} {w : World} {K : PySem.W.Frag} {mg : Str → Option Value} {base : Heap} {k : Nat} {f : Addr} {nm qual : Str} {prm : Arguments} {bd : List Stmt} {sc : Scope}
    {dV kV doc pm cdv ct oc : Value} {an od : Option Addr} {osl : Array (Option Value)} {N ps : List Str} {sp : Sp}
    (lk : K.lookup f = some ⟨oc, od, .func (PySem.W.fnOf nm qual prm bd sc dV kV doc pm an cdv ct), osl⟩) (hcd : PySem.W.codeIn K cdv qual = true) (S : FnScope N ps sc)
    (len : ∀ vs H Q E, sp vs H Q E → vs.length = ps.length)
    (hb : ∀ (A : Around) (out : List Env) (s : Shared) (H : Hp) (vs : List V) (Q : VK) (E : XK), A.guards = some [] → Room k (A.deeper (envOfC qual sc s.heap.objs.size f cdv)) → sp vs H Q E →
      ∃ t, PSs (cxOf CX P w K mg base N qual sc f cdv A out s H E) bd t ∧ t { nx := fun _ H' => Q .non H', rt := Q } (start N vs) H) :
    GOk P w K mg base CX (k + 1) f (PySem.W.fnOf nm qual prm bd sc dV kV doc pm an cdv ct) ps sp := by
  constructor
  · exact len
  intro A out s H ar us vs Q E hgd hr e0 bt rv hsp
  have hl := len _ _ _ _ hsp
  have bk : ∀ b o, base.get? b = some o → s.heap.get? b = some o := fun b o e => (e0.bs b o e).1
  have KX : K.In s.heap := e0.mod.kin.keeps bk
  have lim : s.heap.NoLimit := e0.mod.nolimit.keeps bk
  have hk : ∀ y ∈ ps.zip us, sc.names.lookup y.1 = some .local ∨ (sc.names.lookup y.1 = some .cell ∧ ((cellsFrom (s.heap.objs.size + 1) sc.names []).lookup y.1).isSome = true) := by
    rintro ⟨n, v⟩ hy
    rcases S.par n (List.of_mem_zip hy).1 with q | q
    · exact Or.inl q
    · exact Or.inr ⟨q, PySem.W.cellsFrom_some _ _ _ (Or.inl q)⟩
  refine codeAny_call_function hr.depth (KX _ _ lk) rfl S.co S.gen rfl (PySem.W.codeRec_of KX hcd) (bt _ _ _ _ ?_)
  refine wpAny_newFunctionEnv_cells S.kind hk fun env he s1 x => ?_
  subst he
  refine ⟨lim.keeps x.toInCall.keep, codeAny_func ?_⟩
  obtain ⟨t, ht, hq⟩ := hb A out s H vs Q E hgd (hr.deeper _) hsp
  have I := inv_start (CX := CX) (E := E) S hr.hd e0 hl rv x
  refine wpAny_mono (ht.run [] s1 (start N vs) H _ I hq) ?_ (fun e s' hs => hs)
  intro fl s' hs
  cases fl with
  | ret u =>
    obtain ⟨v, σ', H', J, rv', q⟩ := hs
    exact ⟨v, H', J.os, J.bare, J.base, J.hok, rv', q⟩
  | next =>
    obtain ⟨σ', H', J, q⟩ := hs
    exact ⟨V.non, H', J.os, J.bare, J.base, J.hok, rfl, q⟩
  | brk => obtain ⟨_, _, _, q⟩ := hs; exact q.elim
  | cont => obtain ⟨_, _, _, q⟩ := hs; exact q.elim

theorem Fun_okG {P : Program} {w : World} {K : PySem.W.Frag} {mg : Str → Option Value} {base : Heap} {x qual : Str} {st : Stmt} {f : Addr} {fd : FuncData} {N ps : List Str} {k : Nat} {sp : Sp}
    (F : Fun K x qual st f fd) (S : FnScope N ps (defScope st)) (len : ∀ vs H Q E, sp vs H Q E → vs.length = ps.length)
    (hb : ∀ (cdv : Value) (A : Around) (out : List Env) (s : Shared) (H : Hp) (vs : List V) (Q : VK) (E : XK), A.guards = some [] → Room k (A.deeper (envOfC qual (defScope st) s.heap.objs.size f cdv)) → sp vs H Q E →
      ∃ t, PSs (cxOf CX0 P w K mg base N qual (defScope st) f cdv A out s H E).nox (defBody st) t ∧ t { nx := fun _ H' => Q .non H', rt := Q } (start N vs) H) :
    GOk P w K mg base CX0 (k + 1) f fd ps sp := by
  obtain ⟨oc, od, kV, doc, pm, an, cdv, ct, osl, rfl, lk, hcd⟩ := F.ex
  refine gn_of lk hcd S len fun A out s H vs Q E hg hr hsp => ?_
  obtain ⟨t, h, q⟩ := hb cdv A out s H vs Q E hg hr hsp
  exact ⟨t, h.nox, q⟩

section
variable {X : Cx} {CX : CXT} {k : Nat} {f : Addr} {fd : FuncData} {ps : List Str} {sp : Sp} {E : XK} {ds : List Value} {dvs : List V} {x : Str} {p pos : Pos} {e : Expr} {es : List Expr} {t : TA}
theorem run_gn {pins : List (Addr × Obj)} {σ : L2.St} {H : Hp} {s : Shared} {Q : VK} {us : List Value} {vs : List V} (F : GOk X.prog X.w X.K X.mg X.base CX k f fd ps sp) (hg : X.A.guards = some []) (hr : Room k X.A) (hb : Binds X.K fd ps ds)
    (hd : Vals dvs ds) (hx : Passes CX X E) (I : Inv X pins σ H s) (r : Vals vs us) (h : sp (vs ++ dvs) H Q E) : wpAny (model X.prog X.w) X.A (call (.ref f) us) (EP X pins σ Q) X.xe s := by
  have r2 := r.append hd
  have hl : (us ++ ds).length = ps.length := r2.length.symm.trans (F.len _ _ _ _ h)
  have z := F.go X.A X.stack s H ⟨us, []⟩ (us ++ ds) (vs ++ dvs) Q E hg hr I.env0 (hb s us I.kIn hl) r2 h
  refine wpAny_call (codeAny_mono z ?_)
  intro r s' hq
  match r, hq with
  | .error e, hq => exact hx pins σ H s e s' I hq
  | .ok (.ret u), hq => exact I.after hq
  | .ok .next, hq => exact False.elim hq
  | .ok .brk, hq => exact False.elim hq
  | .ok .cont, hq => exact False.elim hq
/-- f(e, ..) -/
theorem pg_call (F : GOk X.prog X.w X.K X.mg X.base CX k f fd ps sp) (hgd : X.A.guards = some []) (hr : Room k X.A) (hg : Gl X x) (hm : X.mg x = some (.ref f)) (hk : PySem.W.keepIn X.K (.ref f) = true)
    (hb : Binds X.K fd ps ds) (hd : Vals dvs ds) (hx : Passes CX X E) (ha : PA X (e :: es) t) (hdb : (x == ("__debug__" : Str)) = false := by decide)
    (he : starEach (e :: es) X.env = (false, eval e X.env) :: starEach es X.env := by rfl) (hpl : (backTo pos (starEach es X.env)).any (·.1) = false := by rfl) :
    PE X (.Call (.Name x p) (e :: es) [] pos) (tCall sp dvs E t) := by
  constructor
  intro pins s σ H Q I h
  refine wpAny_Call_Name_kw (ld_glob I hg hm ?_ hdb)
  refine PySem.W.callWith_K (h₀ := X.base) I.ok.mod.kin hk ?_ he hpl
  refine thn (ha.run pos pins s σ H _ I h) ?_
  rintro us s1 ⟨vs, H1, I1, r, q⟩
  exact ⟨I1.kIn, run_gn F hgd hr hb hd hx I1 r q⟩
theorem pg_call0 (F : GOk X.prog X.w X.K X.mg X.base CX k f fd ps sp) (hgd : X.A.guards = some []) (hr : Room k X.A) (hg : Gl X x) (hm : X.mg x = some (.ref f)) (hk : PySem.W.keepIn X.K (.ref f) = true)
    (hb : Binds X.K fd ps ds) (hd : Vals dvs ds) (hx : Passes CX X E) (hdb : (x == ("__debug__" : Str)) = false := by decide) :
    PE X (.Call (.Name x p) [] [] pos) (tCall sp dvs E tNil) := by
  constructor
  intro pins s σ H Q I h
  exact wpAny_Call_Name_kw (ld_glob I hg hm (PySem.W.callWith_K0 I.kIn hk (run_gn (us := []) F hgd hr hb hd hx I .nil h)) hdb)
end

/-! ### the law's own end -/
theorem law_go {P : Program} {w : World} {K : PySem.W.Frag} {mg mb : Str → Option Value} {CX : CXT} {k : Nat} {fa a : Addr} {fd : FuncData} {x : Str} {sp : Sp} {s1 : Shared} {vs : List Value} {ns : List Int}
    (KX : K.In s1.heap) (hns : s1.heap.Ns mainGlobals mg) (hb : s1.heap.Ns builtinsNs mb) (hbb : ∀ x : Str, x ≠ "__name__" → mb x = bootBuiltins x) (hlim : s1.heap.NoLimit) (hg : s1.gens = #[])
    (ha : s1.heap.get? a = some { cls := .type "list", data := .seq vs.toArray }) (hi : IntsAre vs ns) (hl : ns.length ≤ sizeLine) (hr : Room k callerA)
    (F : ∀ b : Heap, K.In b → b.Ns mainGlobals mg → GOk P w K mg b CX k fa fd [x] sp) (hbind : ∀ (s : Shared) (u : Value), BindsTo s fd ⟨[u], []⟩ [(x, u)])
    (hsp : ∀ H : Hp, Only H → SqL K H a (ns.map V.int) → sp [.ref a] H (fun v _ => v = .bl true) fun _ _ _ => False)
    (hCX : ∀ H e s', CX [] H s1 (fun _ _ _ => False) e s' → False) :
    codeAny (model P w) callerA (.call (.ref fa) ⟨[.ref a], []⟩) (fun r s' => r = .ok (.ret (.bool true)) ∧ OldK s1.heap s'.heap ∧ s'.os = s1.os ∧ AllBare s'.gens) s1 := by
  have rv := vals_ints hi
  have main : ∀ H : Hp, Only H → SqL K H a (ns.map V.int) → HOk P w H s1.heap → (∀ b, H b ≠ none → b = a) → (H a ≠ none → K.lookup a = none) →
      codeAny (model P w) callerA (.call (.ref fa) ⟨[.ref a], []⟩) (fun r s' => r = .ok (.ret (.bool true)) ∧ OldK s1.heap s'.heap ∧ s'.os = s1.os ∧ AllBare s'.gens) s1 := by
    intro H hO hS hok hA hK
    have keptB : ∀ {b : Addr} {o : Obj}, s1.heap.get? b = some o → H b = none → (hidT s1.heap H).get? b = some o := fun e n => hidT_get e n
    have notA : ∀ {b : Addr} {o : Obj} {es : Array DictEntry} {ep : Nat}, s1.heap.get? b = some o → o.data = .dict es ep → H b = none := by
      intro b o es ep e d
      cases q : H b with
      | none => rfl
      | some u =>
        obtain rfl : b = a := hA b (by rw [q]; exact fun z => nomatch z)
        rw [ha] at e
        cases e
        cases (show Data.seq vs.toArray _ = Data.dict es ep from d)
    have nsB : ∀ {b : Addr} {m : Str → Option Value}, s1.heap.Ns b m → (hidT s1.heap H).Ns b m := by
      rintro b m ⟨o, es, ep, e, d, r⟩
      exact ⟨o, es, ep, keptB e (notA e d), d, r⟩
    have hKb : K.In (hidT s1.heap H) := by
      intro b o e
      refine keptB (KX b o e) ?_
      cases q : H b with
      | none => rfl
      | some u =>
        obtain rfl : b = a := hA b (by rw [q]; exact fun z => nomatch z)
        rw [hK (by rw [q]; exact fun z => nomatch z)] at e
        cases e
    have hM : Mod K mg (hidT s1.heap H) := by
      obtain ⟨mc, l1, l2⟩ := hlim
      exact ⟨hKb, nsB hns, ⟨mb, nsB hb, hbb⟩, ⟨mc, nsB l1, l2⟩⟩
    have e0 : Env0 P w K mg (hidT s1.heap H) callerA [] s1 H :=
      ⟨rfl, hM, fun b o e => of_hidT e, Nat.le_of_eq (hidT_size _ _), trivial, fun b z => absurd (show b ∈ ([] : List Addr) from z) (by simp), hok, .of_eq hg⟩
    have run := (F _ hKb (nsB hns)).go callerA [] s1 H ⟨[.ref a], []⟩ [.ref a] [.ref a] (fun v _ => v = .bl true) (fun _ _ _ => False) rfl hr e0 (hbind s1 (.ref a)) (.cons rfl .nil) (hsp H hO hS)
    refine codeAny_mono run ?_
    intro r s' h
    match r, h with
    | .error e, h => exact (hCX H e s' h).elim
    | .ok .next, h => exact False.elim h
    | .ok .brk, h => exact False.elim h
    | .ok .cont, h => exact False.elim h
    | .ok (.ret u), h =>
      obtain ⟨v, H', os, bare, un, hok', r', q⟩ := h
      obtain rfl : v = .bl true := q
      obtain rfl : u = Value.bool true := r'
      refine ⟨rfl, OldK.of_keep fun b o e => ?_, os, bare⟩
      cases q : H b with
      | none => exact un.keep b o e q (fun z => absurd (show b ∈ ([] : List Addr) from z) (by simp)) (by simp)
      | some u =>
        rcases hO b with z | ⟨ob, xs, z⟩
        · rw [q] at z
          cases z
        · obtain ⟨e1, _⟩ := hok b _ z
          obtain ⟨e2, _⟩ := hok' b _ (un.frzs b ob _ z)
          rw [e] at e1
          cases e1
          exact e2
  cases hk : K.lookup a with
  | some o =>
    have e := KX a o hk
    rw [ha] at e
    cases e
    exact main (fun _ => none) (fun _ => .inl rfl) (.inr ⟨_, vs.toArray, _, hk, rfl, rfl, rfl, by rw [List.size_toArray, hi.length]; exact hl, by simpa using rv⟩)
      (fun b u z => by cases (show (none : Option HO) = some u from z)) (fun b z => absurd rfl z) fun z => absurd rfl z
  | none =>
    have ones : ∀ b : Addr, b ≠ a → (if b = a then some (HO.frz { cls := .type "list", data := .seq vs.toArray } (.lst (ns.map V.int))) else none) = none := fun b z => if_neg z
    refine main (fun b => if b = a then some (HO.frz { cls := .type "list", data := .seq vs.toArray } (.lst (ns.map V.int))) else none) ?_ (.inl (.inr ⟨_, if_pos rfl⟩)) ?_ ?_ fun _ => hk
    · intro b
      by_cases z : b = a
      · exact .inr ⟨_, _, if_pos z⟩
      · exact .inl (ones b z)
    · intro b u z
      by_cases y : b = a
      · subst y
        cases (if_pos rfl).symm.trans z
        exact ⟨ha, by rw [List.length_map]; exact hl, vs, _, rv, ha⟩
      · cases (ones b y).symm.trans z
    · intro b z
      by_cases y : b = a
      · exact y
      · exact absurd (ones b y) z
theorem walk_go {l : PySem.W.OpenLaw} {n k : Nat} {q : Program} {loose : List Str} {XP : (Str → Option Value) → Heap → Prop} {YP : World → Heap → Prop} {d : DefRec} {K : Params → PySem.W.Frag} {x : Str} {sp : World → Sp}
    (hn : l.most = some n) (hn2 : n ≤ sizeLine) (hdf : d.params.defaults = []) (hr : Room k callerA) (hY : ∀ (w : World) (h : Heap), YP w h → (K w.params).In h)
    (F : ∀ (w : World) (mg : Str → Option Value) (fa : Addr) (h : Heap), (K w.params).In h → h.Ns mainGlobals mg → mg d.name = some (.ref fa) →
      ∃ fd : FuncData, (∀ (s : Shared) (u : Value), BindsTo s fd ⟨[u], []⟩ [(x, u)]) ∧
        ∀ b : Heap, (K w.params).In b → b.Ns mainGlobals mg → GOk l.prog w (K w.params) mg b CX0 k fa fd [x] (sp w))
    (hsp : ∀ (w : World) (H : Hp) (a : Addr) (ns : List Int), ns.length ≤ n → (∀ z ∈ ns, Builtin.Int.intBits z ≤ 1048576) → Only H → SqL (K w.params) H a (ns.map V.int) → sp w [.ref a] H (fun v _ => v = .bl true) fun _ _ _ => False) :
    PySem.W.WalkO q loose XP YP l.row.toRowW d [] (fun f vs => PySem.call f vs) := by
  refine Att.attach_callB hn hdf ?_
  intro w s0 s1 mg mb fa o pm cd doc a vs ns G Y ho hd hcd hmg hobj hints hlen hbits hg
  have KX := hY w _ Y
  obtain ⟨fd, hb, hF⟩ := F w mg fa _ KX G.T.g hmg
  exact law_go KX G.T.g G.T.b G.T.builtins G.T.nolimit hg hobj hints (Nat.le_trans hlen hn2) hr hF hb (fun H hO hS => hsp w H a ns hlen hbits hO hS) fun _ _ _ z => z
end Zk
set_option maxHeartbeats 4000000
namespace Zk
open PySem PySem.Spec PyProof.Rows L2

/-! ### data at any depth, dicts too -/
def keyD : Key → PyData
  | .inl i => .int i
  | .inr x => .str x
mutual
inductive Dx (H : Hp) : V → PyData → Prop
  | non : Dx H .non .none
  | bl (b : Bool) : Dx H (.bl b) (.bool b)
  | int (i : Int) : Dx H (.int i) (.int i)
  | str (x : Str) : Dx H (.str x) (.str x)
  | lst {a : Addr} {xs : List V} {ds : List PyData} : Rd H a (.lst xs) → DxA H xs ds → Dx H (.ref a) (.list ds)
  | tup {a : Addr} {xs : List V} {ds : List PyData} : Rd H a (.tup xs) → DxA H xs ds → Dx H (.ref a) (.tuple ds)
  | dic {a : Addr} {kvs : List (Key × V)} {ds : List (PyData × PyData)} : Rd H a (.dK kvs) → DxK H kvs ds → Dx H (.ref a) (.dict ds)
inductive DxA (H : Hp) : List V → List PyData → Prop
  | nil : DxA H [] []
  | cons {v : V} {vs : List V} {d : PyData} {ds : List PyData} : Dx H v d → DxA H vs ds → DxA H (v :: vs) (d :: ds)
inductive DxK (H : Hp) : List (Key × V) → List (PyData × PyData) → Prop
  | nil : DxK H [] []
  | cons {k : Key} {v : V} {kvs : List (Key × V)} {d : PyData} {ds : List (PyData × PyData)} : Dx H v d → DxK H kvs ds → DxK H ((k, v) :: kvs) ((keyD k, d) :: ds)
end
theorem rd_same {H H' : Hp} {a : Addr} {o : HO} (e : Same H H') (h : Rd H a o) : Rd H' a o := by
  rcases h with h | ⟨u, h⟩
  · exact .inl (e _ _ h)
  · exact .inr ⟨u, e _ _ h⟩
mutual
theorem Dx.mono {H H' : Hp} (e : Same H H') : ∀ {d : PyData} {v : V}, Dx H v d → Dx H' v d
  | _, _, .non => .non
  | _, _, .bl b => .bl b
  | _, _, .int i => .int i
  | _, _, .str x => .str x
  | _, _, .lst h r => .lst (rd_same e h) (DxA.mono e r)
  | _, _, .tup h r => .tup (rd_same e h) (DxA.mono e r)
  | _, _, .dic h r => .dic (rd_same e h) (DxK.mono e r)
theorem DxA.mono {H H' : Hp} (e : Same H H') : ∀ {ds : List PyData} {vs : List V}, DxA H vs ds → DxA H' vs ds
  | _, _, .nil => .nil
  | _, _, .cons h r => .cons (Dx.mono e h) (DxA.mono e r)
theorem DxK.mono {H H' : Hp} (e : Same H H') : ∀ {ds : List (PyData × PyData)} {vs : List (Key × V)}, DxK H vs ds → DxK H' vs ds
  | _, _, .nil => .nil
  | _, _, .cons h r => .cons (Dx.mono e h) (DxK.mono e r)
end
mutual
def hasL : PyData → Bool
  | .list _ => true
  | .tuple xs => hasLA xs
  | .dict kvs => hasLK kvs
  | _ => false
def hasLA : List PyData → Bool
  | [] => false
  | x :: xs => hasL x || hasLA xs
def hasLK : List (PyData × PyData) → Bool
  | [] => false
  | (_, v) :: r => hasL v || hasLK r
end
section
variable {X : Cx} {pins : List (Addr × Obj)} {σ : L2.St} {H : Hp} {s : Shared}
theorem no_sys (I : Inv X pins σ H s) (hs : ∃ o, X.base.get? sysModules = some o) {a : Addr} {u : HO} (r : Rd H a u) : a ≠ sysModules := by
  rintro rfl
  obtain ⟨o, e⟩ := hs
  have n := (I.bs _ o e).2
  rcases r with r | ⟨_, r⟩
  · rw [n] at r
    cases r
  · rw [n] at r
    cases r
mutual
theorem Dx.reads (I : Inv X pins σ H s) (G L : Prop) (hs : L → G → ∃ o, X.base.get? sysModules = some o) : ∀ (d : PyData) (v : V) (u : Value), Dx H v d → RelV v u → (hasL d = true → L) → ∃ as, Reads s.heap u d as ∧ (G → sysModules ∉ as)
  | .none, _, _, .non, rfl, _ => ⟨_, Reads.none, fun _ z => nomatch z⟩
  | .bool b, _, _, .bl _, rfl, _ => ⟨_, Reads.bool b, fun _ z => nomatch z⟩
  | .int i, _, _, .int _, ⟨t, rfl⟩, _ => ⟨_, Reads.int i t, fun _ z => nomatch z⟩
  | .str x, _, _, .str _, ⟨t, rfl⟩, _ => ⟨_, Reads.str x t, fun _ z => nomatch z⟩
  | .list ds, _, _, .lst (a := a) h r, rfl, hl => by
    obtain ⟨_, its, n, rv, e⟩ := h.ok I.hok
    obtain ⟨as, q, z⟩ := Dx.readsA I G L hs ds _ its r rv (fun _ => hl rfl)
    refine ⟨a :: as, Reads.list e rfl rfl q, fun y m => ?_⟩
    rcases List.mem_cons.mp m with m | m
    · exact no_sys I (hs (hl rfl) y) h m.symm
    · exact z y m
  | .tuple ds, _, _, .tup (a := a) h r, rfl, hl => by
    obtain ⟨_, its, rv, o, e, c, n, hd⟩ := h.ok I.hok
    obtain ⟨as, q, z⟩ := Dx.readsA I G L hs ds _ its r rv (fun y => hl (by simpa [hasL] using y))
    exact ⟨as, Reads.tuple e c hd q, z⟩
  | .dict ds, _, _, .dic (a := a) h r, rfl, hl => by
    obtain ⟨_, ns, vs, rv, o, es, ep, e, x, hd, _, ps, _⟩ := h.ok I.hok
    obtain ⟨as, bs, q1, q2, z⟩ := Dx.readsK I G L hs ds _ es.toList vs r ps rv (fun y => hl (by simpa [hasL] using y))
    refine ⟨a :: as ++ bs, Reads.dict e x.1 hd q1 q2, fun y m => ?_⟩
    rcases List.mem_append.mp m with m | m
    · rcases List.mem_cons.mp m with m | m
      · rw [← m] at ns
        exact absurd ns (by decide)
      · exact (z y).1 m
    · exact (z y).2 m
theorem Dx.readsA (I : Inv X pins σ H s) (G L : Prop) (hs : L → G → ∃ o, X.base.get? sysModules = some o) : ∀ (ds : List PyData) (vs : List V) (us : List Value), DxA H vs ds → Vals vs us → (hasLA ds = true → L) → ∃ as, ReadsAll s.heap us ds as ∧ (G → sysModules ∉ as)
  | [], _, _, .nil, .nil, _ => ⟨_, ReadsAll.nil, fun _ z => nomatch z⟩
  | d :: ds, _, _, .cons h r, .cons rv rs, hl => by
    obtain ⟨as, q1, z1⟩ := Dx.reads I G L hs d _ _ h rv (fun y => hl (by simp [hasLA, y]))
    obtain ⟨bs, q2, z2⟩ := Dx.readsA I G L hs ds _ _ r rs (fun y => hl (by simp [hasLA, y]))
    refine ⟨as ++ bs, ReadsAll.cons q1 q2, fun y m => ?_⟩
    rcases List.mem_append.mp m with m | m
    · exact z1 y m
    · exact z2 y m
theorem Dx.readsK (I : Inv X pins σ H s) (G L : Prop) (hs : L → G → ∃ o, X.base.get? sysModules = some o) : ∀ (ds : List (PyData × PyData)) (kvs : List (Key × V)) (es : List DictEntry) (vs : List (Key × Value)), DxK H kvs ds → Pairs (mixKind X.prog X.w) es vs → KV kvs vs → (hasLK ds = true → L) →
    ∃ as bs, ReadsAll s.heap (es.map (·.key)) (ds.map (·.1)) as ∧ ReadsAll s.heap (es.map (·.val)) (ds.map (·.2)) bs ∧ (G → sysModules ∉ as ∧ sysModules ∉ bs)
  | [], _, _, _, h, p, rv, _ => by
    cases h
    cases rv
    cases p
    exact ⟨_, _, ReadsAll.nil, ReadsAll.nil, fun _ => ⟨(fun z => nomatch z), (fun z => nomatch z)⟩⟩
  | kd :: ds, _, _, _, h, p, rv, hl => by
    cases h with
    | @cons k0 _ _ _ _ h r =>
      cases rv with
      | cons rv rs =>
        rename_i w2 vs2
        obtain ⟨k2, w2⟩ := w2
        obtain ⟨e1, rw2⟩ := rv
        cases p with
        | cons ki ve ps =>
          rename_i e es
          simp only at e1 rw2 ki ve
          subst e1
          have ki' : keyIs k0 e.key = true := ki
          subst ve
          obtain ⟨as, q1, z1⟩ := Dx.reads I G L hs _ _ _ h rw2 (fun y => hl (by simp [hasLK, y]))
          obtain ⟨bs, cs, q2, q3, z2⟩ := Dx.readsK I G L hs ds _ es _ r ps rs (fun y => hl (by simp [hasLK, y]))
          have rk : Reads s.heap e.key (keyD k0) [] := by
            rcases keyIs_shape ki' with ⟨i, t, a1, a2⟩ | ⟨x, t, a1, a2⟩
            · rw [a1, a2]
              exact Reads.int i t
            · rw [a1, a2]
              exact Reads.str x t
          refine ⟨[] ++ bs, as ++ cs, ReadsAll.cons rk q2, ReadsAll.cons q1 q3, fun y => ⟨fun m => ?_, fun m => ?_⟩⟩
          · exact (z2 y).1 (by simpa using m)
          · rcases List.mem_append.mp m with m | m
            · exact z1 y m
            · exact (z2 y).2 m
end

/-- repr(x) of data -/
def rRepr (S : Prop) : List V → Hp → VK → Prop := fun xs H Q => ∃ v d, xs = [v] ∧ Dx H v d ∧ d.showable = true ∧ d.shown.length ≤ sizeLine ∧ d.depth ≤ 40 ∧ (hasL d = true → d.hasDict = true → S) ∧ Q (.str d.shown) H
theorem call_repr {S : Prop} (hS : S → ∃ o, X.base.get? sysModules = some o) (hg : X.A.guards = some []) (hu : X.A.units + 64 < cLine) : CallR X (.builtin "repr") (rRepr S) := by
  intro pins s σ H xs us Q I r h
  obtain ⟨v, d, rfl, hd, sh, sz, dp, hS', q⟩ := h
  obtain ⟨u, rfl, rv⟩ := vals1 r
  have fin : ∀ (x : Str) (tk : Tok) (n : Nat), x = d.shown → EP X pins σ Q (.str x tk) { s with toks := n } := fun x tk n e => by
    subst e
    exact ⟨.str d.shown, H, I.tok _, ⟨_, rfl⟩, q⟩
  have big : ∀ {a : Addr}, RelV (.ref a) u → wpAny (model X.prog X.w) X.A (call (.builtin "repr") [u]) (EP X pins σ Q) X.xe s := fun {a} e => by
    obtain ⟨as, rd, hsm⟩ := Dx.reads I (d.hasDict = true) (hasL d = true) (fun y z => hS (hS' y z)) d v u hd rv id
    cases e
    exact repr_of_reads' rd sh hsm hg (by omega) (fun _ _ z => z) (fun h' t n k => ⟨.str d.shown, H, I.kept k, ⟨_, rfl⟩, q⟩) sz
  cases hd with
  | non =>
    cases rv
    exact PySem.P.repr_of_none (fin _ _ _ rfl)
  | bl b =>
    cases rv
    exact PySem.P.repr_of_bool (fin _ _ _ (by cases b <;> rfl))
  | int i =>
    obtain ⟨t, rfl⟩ := rv
    exact PySem.P.repr_of_int (by unfold PyData.showable at sh; exact of_decide_eq_true sh) (fin _ _ _ rfl)
  | str x =>
    obtain ⟨t, rfl⟩ := rv
    exact PySem.P.repr_of_str (fin _ _ _ rfl) sz
  | lst _ _ => exact big rv
  | tup _ _ => exact big rv
  | dic _ _ => exact big rv
/-- isinstance's class of data -/
def tyD : PyData → String
  | .none => "NoneType"
  | .bool _ => "bool"
  | .int _ => "int"
  | .str _ => "str"
  | .list _ => "list"
  | .tuple _ => "tuple"
  | .dict _ => "dict"
theorem Dx.ty {K : PySem.W.Frag} {v : V} {d : PyData} (h : Dx H v d) : TyX K H v (.type (tyD d)) := by
  cases h with
  | non => exact .base .non
  | bl b => exact .base (.bl b)
  | int i => exact .base (.int i)
  | str x => exact .base (.str x)
  | lst r _ =>
    rcases r with r | ⟨o, r⟩
    · exact .base (.lst r)
    · exact .base (.frz r)
  | tup r _ =>
    rcases r with r | ⟨o, r⟩
    · exact .base (.tup r)
    · exact .fTuple r
  | dic r _ =>
    rcases r with r | ⟨o, r⟩
    · exact .base (.dK r)
    · exact .fDict r
/-- isinstance(x, T) of data, T a built-in class -/
def rIsD : List V → Hp → VK → Prop := fun xs H Q => ∃ T v d b, xs = [v, .ty T] ∧ Dx H v d ∧ kitB (tyD d) T = some b ∧ Q (.bl b) H
theorem call_isD : CallR X (.builtin "isinstance") rIsD := by
  intro pins s σ H xs us Q I r h
  obtain ⟨T, v, d, b, rfl, hd, e, q⟩ := h
  exact call_isi pins s σ H _ us Q I r ⟨v, .ty T, _, _, b, rfl, .ty T, hd.ty, kit_ty e, q⟩
end

/-! ### great ints -/
section
variable {X : Cx}
abbrev bits (i : Int) : Nat := Builtin.Int.intBits i
theorem op_mulG : OpR X (binaryOp .Mult) (rI (fun i j => bits i + bits j ≤ 2 ^ 26) fun i j => .int (i * j)) := opI fun i j _ _ _ _ _ hc q => by
  refine mul_int q ?_
  unfold IntMulOk
  intro z
  rw [Bool.and_eq_true] at z
  have z2 := of_decide_eq_true z.2
  have e : bitsLine = 134217728 := by decide
  rw [e] at z2
  have hc' : bits i + bits j ≤ 67108864 := hc
  have c2 : ((Builtin.Int.intBits i + Builtin.Int.intBits j : Nat) : Int) ≤ 67108864 := Int.ofNat_le.mpr hc'
  omega
theorem op_powG : OpR X (binaryOp .Pow) (rI (fun i j => 0 ≤ j ∧ (bits i : Int) * j ≤ 2 ^ 27) fun i j => .int (i ^ j.toNat)) := opI fun i j _ _ _ _ _ hc q => pow_int hc.1 hc.2 q

/-- 'ab' * n -/
def rMulS : R2 := fun x y H Q => ∃ (z : Str) (n : Nat), x = .str z ∧ y = .int (n : Int) ∧ z.length * n ≤ 100000 ∧ n ≤ 100000 ∧ Q (.str (Txt.mul z n)) H
theorem op_mulS : OpR X (binaryOp .Mult) rMulS := by
  intro pins s σ H x y v u Q I rx ry h
  obtain ⟨z, n, rfl, rfl, hz, hn, q⟩ := h
  obtain ⟨t, rfl⟩ := rx
  obtain ⟨t', rfl⟩ := ry
  refine PySem.SB.mul ⟨?_, fun h1 _ => ?_, fun h1 _ => ?_⟩ fun t2 k => ⟨.str (Txt.mul z n), H, I.tok _, ⟨_, rfl⟩, q⟩
  · rw [decide_eq_false (by omega), decide_eq_false (by omega)]
    rfl
  · have hp : (0 : Int) < (n : Int) := by omega
    have h2 : (z.length : Int) ≤ (2 ^ 63 - 1) / (n : Int) := by
      refine (Int.le_ediv_iff_mul_le hp).mpr ?_
      have : ((z.length * n : Nat) : Int) ≤ 100000 := by omega
      rw [Int.natCast_mul] at this
      omega
    omega
  · have e : (n : Int).toNat = n := Int.toNat_natCast n
    rw [e]
    unfold Builtin.Str.tooLong
    have h3 := (show 100000 ≤ sizeLine by decide)
    exact decide_eq_false (by omega)
/-- the keys by which texts, numbers and flags are sorted -/
inductive KeyV (H : Hp) : V → V → Prop
  | str {a : Addr} (x : Str) : H a = some (.tup [.int x.length, .str x]) → KeyV H (.ref a) (.str x)
  | int (i : Int) : KeyV H (.int i) (.int i)
  | bl (b : Bool) : KeyV H (.bl b) (.bl b)
def befV : V → V → Bool
  | .str x, .str y => decide (x.length < y.length) || (decide (x.length = y.length) && decide (x.cps.toList < y.cps.toList))
  | .int i, .int j => decide (i < j)
  | .bl a, .bl b => decide (b2i a < b2i b)
  | _, _ => false
def sameK : V → V → Prop
  | .str _, .str _ => True
  | .int _, .int _ => True
  | .bl _, .bl _ => True
  | _, _ => False
def rLtK : R2 := fun x y H Q => ∃ a b, KeyV H x a ∧ KeyV H y b ∧ sameK a b ∧ Q (.bl (befV a b)) H
theorem op_ltK (hu : X.A.units < cLine) : OpR X (compareOp .Lt) rLtK := by
  intro pins s σ H x y v u Q I rx ry h
  obtain ⟨a, b, ka, kb, sk, q⟩ := h
  cases ka with
  | int i =>
    cases kb with
    | int j =>
      obtain ⟨t, rfl⟩ := rx
      obtain ⟨t', rfl⟩ := ry
      exact PyProof.Rows.lt_int ⟨.bl _, H, I, rfl, q⟩
    | bl _ => exact sk.elim
    | str _ _ => exact sk.elim
  | bl i =>
    cases kb with
    | bl j =>
      cases rx
      cases ry
      exact PyProof.Rows.lt_bool ⟨.bl _, H, I, rfl, q⟩
    | int _ => exact sk.elim
    | str _ _ => exact sk.elim
  | str z h1 =>
    cases kb with
    | int _ => exact sk.elim
    | bl _ => exact sk.elim
    | str z2 h2 =>
      cases rx
      cases ry
      obtain ⟨its, r1, p1, _⟩ := I.tuple (SqT.of h1)
      obtain ⟨its2, r2, p2, _⟩ := I.tuple (SqT.of h2)
      obtain ⟨u1, u2, rfl, ⟨t1, rfl⟩, ⟨t2, rfl⟩⟩ := vals2 r1
      obtain ⟨u3, u4, rfl, ⟨t3, rfl⟩, ⟨t4, rfl⟩⟩ := vals2 r2
      have R := Ob.RcOp.tuples_lt (A := X.A) (s := s) (e := fun j => if j = 0 then decide ((z.length : Int) = z2.length) else z == z2)
        (r := fun j => if j = 0 then decide ((z.length : Int) < z2.length) else decide (z.cps.toList < z2.cps.toList)) p1 p2 hu (fun j j1 j2 => ?_) (fun j j1 j2 _ => ?_)
      · have e : Ob.lexAt (fun j => if j = 0 then decide ((z.length : Int) = z2.length) else z == z2)
            (fun j => if j = 0 then decide ((z.length : Int) < z2.length) else decide (z.cps.toList < z2.cps.toList)) (decide (2 < 2)) 0 2 = befV (.str z) (.str z2) := by
          show (if decide ((z.length : Int) = z2.length) = true then (if (z == z2) = true then decide (2 < 2) else decide (z.cps.toList < z2.cps.toList)) else decide ((z.length : Int) < z2.length)) = (decide (z.length < z2.length) || (decide (z.length = z2.length) && decide (z.cps.toList < z2.cps.toList)))
          by_cases a1 : z.length = z2.length
          · have a2 : (z.length : Int) = z2.length := by omega
            rw [decide_eq_true a2, if_pos rfl, decide_eq_true a1, decide_eq_false (by omega : ¬ z.length < z2.length), Bool.false_or, Bool.true_and]
            by_cases b1 : z = z2
            · subst b1
              rw [if_pos (beq_self_eq_true _)]
              have zz : ¬ z.cps.toList < z.cps.toList := List.lt_irrefl (α := Nat) z.cps.toList
              rw [decide_eq_false zz]
              rfl
            · rw [if_neg (fun q => b1 (eq_of_beq q))]
          · have a2 : ¬ (z.length : Int) = z2.length := by omega
            rw [decide_eq_false a2, if_neg Bool.false_ne_true, decide_eq_false a1, Bool.false_and, Bool.or_false]
            by_cases b1 : z.length < z2.length
            · rw [decide_eq_true b1, decide_eq_true (by omega)]
            · rw [decide_eq_false b1, decide_eq_false (by omega)]
        have R2 := R X.prog X.w X.xe (EP X pins σ Q)
        exact R2 ⟨.bl _, H, I, rfl, by rw [← e] at q; exact q⟩
      · match j, j1 with
        | 0, _ =>
          have e : (decide ((z.length : Int) = z2.length)) = ((z.length : Int) == z2.length) := by
            by_cases q : (z.length : Int) = z2.length
            · rw [decide_eq_true q, beq_iff_eq.mpr q]
            · rw [decide_eq_false q, beq_eq_false_iff_ne.mpr q]
          show SeqAt.EqAt X.A.in1 s (.int _ t1) (.int _ t3) (decide ((z.length : Int) = z2.length))
          rw [e]
          exact SeqAt.EqAt.int_int _ _ _ _
        | 1, _ => exact SeqAt.EqAt.str_str _ _ _ _
      · match j, j1 with
        | 0, _ => exact Ob.RcOp.lt_int _ _ _ _
        | 1, _ => exact fun _ _ _ _ h => PyProof.Rows.lt_str h
end
/-- a def of the text that keeps its promise, by the name that holds it -/
def Dfn (P : Program) (w : World) (K : PySem.W.Frag) (mg : Str → Option Value) (base : Heap) (k : Nat) (x : Str) (ps : List Str) (sp : Sp) : Prop :=
  ∃ f fd, GOk P w K mg base CX0 k f fd ps sp ∧ mg x = some (.ref f) ∧ PySem.W.keepIn K (.ref f) = true ∧ Binds K fd ps []
theorem Dfn.mono {P : Program} {w : World} {K : PySem.W.Frag} {mg : Str → Option Value} {base : Heap} {j k : Nat} {x : Str} {ps : List Str} {sp : Sp} (D : Dfn P w K mg base j x ps sp) (h : j ≤ k) : Dfn P w K mg base k x ps sp := by
  obtain ⟨f, fd, F, r⟩ := D
  exact ⟨f, fd, F.mono h, r⟩
theorem Dfn.imp {P : Program} {w : World} {K : PySem.W.Frag} {mg : Str → Option Value} {base : Heap} {k : Nat} {x : Str} {ps : List Str} {sp sp2 : Sp} (D : Dfn P w K mg base k x ps sp) (h : ∀ vs H Q E, sp2 vs H Q E → sp vs H Q E) : Dfn P w K mg base k x ps sp2 := by
  obtain ⟨f, fd, F, r⟩ := D
  exact ⟨f, fd, F.imp h, r⟩
section
variable {X : Cx} {k : Nat} {ps : List Str} {sp : Sp} {x : Str} {p pos : Pos} {e : Expr} {es : List Expr} {t : TA}
theorem pd_call (D : Dfn X.prog X.w X.K X.mg X.base k x ps sp) (hgd : X.A.guards = some []) (hr : Room k X.A) (hg : Gl X x) (ha : PA X (e :: es) t) (hdb : (x == ("__debug__" : Str)) = false := by decide)
    (he : starEach (e :: es) X.env = (false, eval e X.env) :: starEach es X.env := by rfl) (hpl : (backTo pos (starEach es X.env)).any (·.1) = false := by rfl) :
    PE X (.Call (.Name x p) (e :: es) [] pos) (tCall sp [] E0 t) := by
  obtain ⟨f, fd, F, hm, hk, hb⟩ := D
  exact pg_call F hgd hr hg hm hk hb .nil pass0 ha hdb he hpl
theorem pd_call0 (D : Dfn X.prog X.w X.K X.mg X.base k x ps sp) (hgd : X.A.guards = some []) (hr : Room k X.A) (hg : Gl X x) (hdb : (x == ("__debug__" : Str)) = false := by decide) :
    PE X (.Call (.Name x p) [] [] pos) (tCall sp [] E0 tNil) := by
  obtain ⟨f, fd, F, hm, hk, hb⟩ := D
  exact pg_call0 F hgd hr hg hm hk hb .nil pass0 hdb
/-- a constant of the module -/
def Gv (mg : Str → Option Value) (x : Str) (v : V) : Prop := ∃ u, mg x = some u ∧ RelV v u
theorem pe_gs {v : V} (h : Gv X.mg x v) (hg : Gl X x) (hd : (x == ("__debug__" : Str)) = false := by decide) : PE X (.Name x pos) (tC v) := by
  obtain ⟨u, hm, r⟩ := h
  exact pe_glob hg hm r hd
end
/-- a def of the text, as the top has left it -/
theorem dfn_mk {P : Program} {w : World} {K : PySem.W.Frag} {mg : Str → Option Value} {base : Heap} {k : Nat} {x : Str} {ps : List Str} {sp : Sp} {f : Addr} {fd : FuncData} (F : GOk P w K mg base CX0 k f fd ps sp) (hm : mg x = some (.ref f))
    (hk : PySem.W.keepIn K (.ref f) = true) (hb : Binds K fd ps []) : Dfn P w K mg base k x ps sp := ⟨f, fd, F, hm, hk, hb⟩
/-- what is known of a def's place -/
structure Pl (K : PySem.W.Frag) (mg : Str → Option Value) (x : Str) (st : Stmt) (ps : List Str) (f : Addr) (fd : FuncData) : Prop where
  F : Fun K x x st f fd
  m : mg x = some (.ref f)
  b : Binds K fd ps []
theorem Pl.d {P : Program} {w : World} {K : PySem.W.Frag} {mg : Str → Option Value} {base : Heap} {k : Nat} {x : Str} {st : Stmt} {ps : List Str} {sp : Sp} {f : Addr} {fd : FuncData} (p : Pl K mg x st ps f fd) (G : GOk P w K mg base CX0 k f fd ps sp) :
    Dfn P w K mg base k x ps sp := ⟨f, fd, G, p.m, p.F.kp, p.b⟩
end Zk
set_option maxHeartbeats 4000000
namespace Zk
open PySem PySem.Spec PyProof.Rows L2

/-! ### more of the heap -/
theorem same_new {H : Hp} {p : Addr} {o : HO} (h : H p = none) : Same H (upd H p o) := by
  intro b u e
  rw [upd_ne (ne_of_none e h)]
  exact e
/-- all but p stands -/
def ExB (p : Addr) (H H' : Hp) : Prop := ∀ b o, b ≠ p → H b = some o → H' b = some o
theorem ExB.refl (p : Addr) (H : Hp) : ExB p H H := fun _ _ _ e => e
theorem ExB.trans {p : Addr} {H H1 H2 : Hp} (a : ExB p H H1) (b : ExB p H1 H2) : ExB p H H2 := fun c o n e => b c o n (a c o n e)
theorem ExB.of {p : Addr} {H H1 : Hp} (a : Same H H1) : ExB p H H1 := fun c o _ e => a c o e
theorem ExB.put {p : Addr} {H : Hp} {o : HO} : ExB p H (upd H p o) := fun c u n e => by
  rw [upd_ne n]
  exact e
theorem ExB.same {p : Addr} {H0 H H' : Hp} (a : ExB p H H') (n : H0 p = none) (s : Same H0 H) : Same H0 H' := fun b o e => a b o (ne_of_none e n) (s b o e)
/-- the heap without p -/
def hid (p : Addr) (H : Hp) : Hp := fun b => if b = p then none else H b
theorem hid_self {p : Addr} {H : Hp} : hid p H p = none := by
  unfold hid
  rw [if_pos rfl]
theorem hid_ne {p b : Addr} {H : Hp} (h : b ≠ p) : hid p H b = H b := by
  unfold hid
  rw [if_neg h]
theorem hid_same {p : Addr} {H : Hp} : Same (hid p H) H := fun b o e => by
  by_cases z : b = p
  · rw [z, hid_self] at e
    cases e
  · rw [hid_ne z] at e
    exact e
theorem ExB.hid {p : Addr} {H H' : Hp} (a : ExB p H H') : Same (hid p H) (hid p H') := fun b o e => by
  by_cases z : b = p
  · rw [z, hid_self] at e
    cases e
  · rw [hid_ne z] at e ⊢
    exact a b o z e
theorem same_hid {p : Addr} {H0 H : Hp} (s : Same H0 H) (n : H0 p = none) : Same H0 (hid p H) := fun b o e => by
  rw [hid_ne (ne_of_none e n)]
  exact s b o e
theorem Same.free' {H H' : Hp} (e : Same H H') {l : Addr} (h : H' l = none) : H l = none := Same.free e h

theorem yes_go {σ : L2.St} {H : Hp} {A B : Hp → Prop} (h : A H) : tYes σ H (fun b H3 => if b = true then A H3 else B H3) := by
  show if true = true then A H else B H
  exact iteT h
theorem no_go {H : Hp} {A B : Hp → Prop} {b : Bool} (hb : b = false) (h : B H) : (fun (b : Bool) H3 => if b = true then A H3 else B H3) b H := by
  subst hb
  exact iteF h
/-! ### the well of draws -/
def wellO (d m : Int) : HO := .dK [((Sum.inr "digits" : Key), V.int d), ((Sum.inr "mixed" : Key), V.int m)]
def WellAt (H : Hp) (p : Addr) : Prop := ∃ d m : Int, H p = some (wellO d m) ∧ 0 ≤ d ∧ bits d ≤ 2000000 ∧ 0 ≤ m ∧ m < 2 ^ 32
theorem WellAt.same {H H' : Hp} {p : Addr} (w : WellAt H p) (s : Same H H') : WellAt H' p := by
  obtain ⟨d, m, e, r⟩ := w
  exact ⟨d, m, s _ _ e, r⟩
theorem WellAt.ne {H : Hp} {p a : Addr} {o : HO} (w : WellAt H p) (h : H a = some o) (d : ∀ kvs, o ≠ .dK kvs) : a ≠ p := by
  obtain ⟨_, _, e, _⟩ := w
  exact ne_of h e (d _)
theorem seq_exb {K : PySem.W.Frag} {p a : Addr} {H H' : Hp} {xs : List V} (w : WellAt H p) (h : SqL K H a xs) (e : ExB p H H') : SqL K H' a xs := by
  rcases h with (h | ⟨o, h⟩) | h
  · exact .inl (.inl (e _ _ (w.ne h (fun _ z => by cases z)) h))
  · exact .inl (.inr ⟨o, e _ _ (w.ne h (fun _ z => by cases z)) h⟩)
  · exact .inr h
theorem bits_small {i : Int} {n : Nat} (h : i.natAbs < 2 ^ n) : bits i ≤ n := by
  unfold bits Builtin.Int.intBits
  split
  · exact Nat.zero_le _
  · rename_i hz
    have h0 : i.natAbs ≠ 0 := fun z => by
      have : i = 0 := by omega
      simp_all
    have := (Nat.log2_lt h0).mpr h
    omega
theorem bits_pow {i : Int} : i.natAbs < 2 ^ bits i := by
  unfold bits Builtin.Int.intBits
  split
  · rename_i hz
    have : i = 0 := by simpa using hz
    subst this
    decide
  · exact Nat.lt_log2_self
theorem bits_mul (i j : Int) : bits (i * j) ≤ bits i + bits j := by
  refine bits_small ?_
  rw [Int.natAbs_mul, Nat.pow_add]
  exact Nat.mul_lt_mul'' bits_pow bits_pow
theorem bits_add {i j : Int} {n : Nat} (hi : bits i ≤ n) (hj : bits j ≤ n) : bits (i + j) ≤ n + 1 := by
  refine bits_small ?_
  have h1 : i.natAbs < 2 ^ n := Nat.lt_of_lt_of_le bits_pow (Nat.pow_le_pow_right (by decide) hi)
  have h2 : j.natAbs < 2 ^ n := Nat.lt_of_lt_of_le bits_pow (Nat.pow_le_pow_right (by decide) hj)
  rw [Nat.pow_succ]
  omega
theorem bits_le {i j : Int} (h : i.natAbs ≤ j.natAbs) : bits i ≤ bits j := bits_small (Nat.lt_of_le_of_lt h bits_pow)
/-- what a draw leaves -/
def spDraw : Sp := fun vs H Q _ => ∃ (p : Addr) (b : Int), vs = [.ref p, .int b] ∧ WellAt H p ∧ 0 < b ∧ b < 1000000000 ∧ ∀ H' r, ExB p H H' → WellAt H' p → 0 ≤ r → r < b → Q (.int r) H'
def spChoose (K : PySem.W.Frag) : Sp := fun vs H Q _ => ∃ (p t : Addr) (xs : List V), vs = [.ref p, .ref t] ∧ WellAt H p ∧ SqL K H t xs ∧ xs ≠ [] ∧ xs.length ≤ 1000000 ∧ ∀ H' v, ExB p H H' → WellAt H' p → v ∈ xs → Q v H'
def spWell (K : PySem.W.Frag) : Sp := fun vs H Q _ => ∃ (a : Addr) (ns : List Int) (j : Int), vs = [.ref a, .int j] ∧ SqL K H a (ns.map V.int) ∧ ns.length ≤ 63 ∧ (∀ z ∈ ns, bits z ≤ 1048576) ∧ 0 ≤ j ∧ j ≤ 1000 ∧
  ∀ H' p, Same H H' → H p = none → WellAt H' p → Q (.ref p) H'
abbrev kD : Key := Sum.inr "digits"
abbrev kM : Key := Sum.inr "mixed"
theorem sd_ne : ¬ Str.ofString "digits" = Str.ofString "mixed" := by decide +kernel
theorem sm_ne : ¬ Str.ofString "mixed" = Str.ofString "digits" := by decide +kernel
theorem kd_ne : ¬ kM = kD := by decide +kernel
theorem kd_ne' : ¬ kD = kM := by decide +kernel
theorem well_putD (d m e : Int) : putK [(kD, V.int d), (kM, V.int m)] kD (V.int e) = [(kD, V.int e), (kM, V.int m)] := by
  simp [putK, sm_ne]
theorem well_putM (d m e : Int) : putK [(kD, V.int d), (kM, V.int m)] kM (V.int e) = [(kD, V.int d), (kM, V.int e)] := by
  simp [putK, sd_ne]
theorem well_merge (d m : Int) : mergeK [] [(kD, V.int d), (kM, V.int m)] = [(kD, V.int d), (kM, V.int m)] := by
  simp [mergeK, putK, sd_ne]
theorem wellD {H : Hp} {p : Addr} {d m : Int} (e : H p = some (wellO d m)) : DGet H p (.str "digits") (some (.int d)) := by
  have z := DGet.k (k := kD) e
  have y : valV [(kD, V.int d), (kM, V.int m)] kD = some (.int d) := valV_pos rfl
  rw [y] at z
  exact z
theorem wellM {H : Hp} {p : Addr} {d m : Int} (e : H p = some (wellO d m)) : DGet H p (.str "mixed") (some (.int m)) := by
  have z := DGet.k (k := kM) e
  have y : valV [(kD, V.int d), (kM, V.int m)] kM = some (.int m) := (valV_neg kd_ne').trans (valV_pos rfl)
  rw [y] at z
  exact z
theorem wellPD {H : Hp} {p : Addr} {d m e : Int} (h : H p = some (wellO d m)) : DPut H p (.str "digits") (.int e) (upd H p (wellO e m)) := by
  have z := DPut.k (k := kD) (v := .int e) h (show 2 < sizeLine by decide)
  rw [well_putD] at z
  exact z
theorem wellPM {H : Hp} {p : Addr} {d m e : Int} (h : H p = some (wellO d m)) : DPut H p (.str "mixed") (.int e) (upd H p (wellO d e)) := by
  have z := DPut.k (k := kM) (v := .int e) h (show 2 < sizeLine by decide)
  rw [well_putM] at z
  exact z
theorem bits_nn {i : Int} {n : Nat} (h0 : 0 ≤ i) (h : i < 2 ^ n) : bits i ≤ n := by
  refine bits_small ?_
  have e : ((2 : Int) ^ n) = ((2 ^ n : Nat) : Int) := by
    rw [Int.natCast_pow]
    rfl
  rw [e] at h
  omega
end Zk
set_option maxHeartbeats 4000000
namespace K1
open PySem PySem.Spec PyProof.Rows L2 Zk
def top (i : Nat) : Stmt := PySem.Challenge.pw_maskwrites_k01_names_and_values.main.body.getD i (.Pass ⟨0, 0, 0, 0⟩)
def LET : Str := "abcdefghijklmnopqrstuvwxyz"
structure Txt (mg : Str → Option Value) : Prop where
  b_len : mg "len" = none
  b_isinstance : mg "isinstance" = none
  b_str : mg "str" = none
  b_int : mg "int" = none
  b_bool : mg "bool" = none
  b_all : mg "all" = none
  b_repr : mg "repr" = none
  b_range : mg "range" = none
  b_max : mg "max" = none
  b_min : mg "min" = none
  g_LETTERS : Gv mg "LETTERS" (.str LET)
  g_LONGEST_NAME : Gv mg "LONGEST_NAME" (.int 8)
  g_LONGEST_TEXT : Gv mg "LONGEST_TEXT" (.int 12)
def letB (x : Str) : Bool := x.cps.toList.all fun c => decide (c ∈ LET.cps.toList)
def rowD : PyData → Bool
  | .str x => letB x
  | _ => false
def nameD : PyData → Bool
  | .str x => letB x && (decide (1 ≤ x.length) && decide (x.length ≤ 8))
  | _ => false
def textD : PyData → Bool
  | .str x => letB x && decide (x.length ≤ 12)
  | _ => false
def numD : PyData → Bool
  | .int i => decide (0 ≤ i)
  | _ => false
def flagD : PyData → Bool
  | .bool _ => true
  | _ => false
def okD (d : PyData) : Prop := ∀ x, d = .str x → x.length ≤ 1000
def spD (f : PyData → Bool) : Sp := fun vs H Q _ => ∃ v d, vs = [v] ∧ Dx H v d ∧ okD d ∧ ∀ H', Same H H' → Q (.bl (f d)) H'
def isS : PyData → Bool
  | .str _ => true
  | _ => false
theorem str_ty (d : PyData) : kitB (tyD d) "str" = some (isS d) := by
  cases d with
  | none  => exact (by decide +kernel : kitB "NoneType" "str" = some false)
  | bool _ => exact (by decide +kernel : kitB "bool" "str" = some false)
  | int _ => exact (by decide +kernel : kitB "int" "str" = some false)
  | str _ => exact (by decide +kernel : kitB "str" "str" = some true)
  | list _ => exact (by decide +kernel : kitB "list" "str" = some false)
  | tuple _ => exact (by decide +kernel : kitB "tuple" "str" = some false)
  | dict _ => exact (by decide +kernel : kitB "dict" "str" = some false)
def isI : PyData → Bool
  | .int _ => true
  | .bool _ => true
  | _ => false
theorem int_ty (d : PyData) : kitB (tyD d) "int" = some (isI d) := by
  cases d with
  | none  => exact (by decide +kernel : kitB "NoneType" "int" = some false)
  | bool _ => exact (by decide +kernel : kitB "bool" "int" = some true)
  | int _ => exact (by decide +kernel : kitB "int" "int" = some true)
  | str _ => exact (by decide +kernel : kitB "str" "int" = some false)
  | list _ => exact (by decide +kernel : kitB "list" "int" = some false)
  | tuple _ => exact (by decide +kernel : kitB "tuple" "int" = some false)
  | dict _ => exact (by decide +kernel : kitB "dict" "int" = some false)
def isB : PyData → Bool
  | .bool _ => true
  | _ => false
theorem bool_ty (d : PyData) : kitB (tyD d) "bool" = some (isB d) := by
  cases d with
  | none  => exact (by decide +kernel : kitB "NoneType" "bool" = some false)
  | bool _ => exact (by decide +kernel : kitB "bool" "bool" = some true)
  | int _ => exact (by decide +kernel : kitB "int" "bool" = some false)
  | str _ => exact (by decide +kernel : kitB "str" "bool" = some false)
  | list _ => exact (by decide +kernel : kitB "list" "bool" = some false)
  | tuple _ => exact (by decide +kernel : kitB "tuple" "bool" = some false)
  | dict _ => exact (by decide +kernel : kitB "dict" "bool" = some false)
theorem isstr {d : PyData} {v : V} {H : Hp} (h : Dx H v d) : (∃ x, d = .str x ∧ v = .str x) ∨ (∀ x, d ≠ .str x) := by
  cases h with
  | str x => exact .inl ⟨x, rfl, rfl⟩
  | _ => exact .inr (fun x z => by cases z)
section
variable {P : Program} {w : World} {K : PySem.W.Frag} {mg : Str → Option Value} {base : Heap} {f : Addr} {fd : FuncData}
-- 9 is_letter_row
abbrev s_is_letter_row : Stmt := top 9
theorem sc_is_letter_row : FnScope ["value", "sign"] ["value"] (defScope s_is_letter_row) := ⟨rfl, rfl, rfl, by decide +kernel, rfl, by decide +kernel, by decide +kernel⟩
theorem ok_is_letter_row (T : Txt mg) (p : Pl K mg "is_letter_row" s_is_letter_row ["value"] f fd) : Dfn P w K mg base 1 "is_letter_row" ["value"] (spD rowD) := by
  have S := sc_is_letter_row
  refine p.d (Fun_okG p.F S (fun vs H Q E h => ?_) (fun cdv A out s H vs Q E hgd hr h => ?_))
  · obtain ⟨v, d, rfl, _⟩ := h
    rfl
  · obtain ⟨v, d, rfl, hd, hk, q⟩ := h
    refine ⟨_, (pss_one (ps_ret (pe_and (pe_callB call_isD (by rfl) T.b_isinstance (by decide +kernel) (pa_cons (pv 0) (pa_cons (pe_bltn (v := .ty "str") (by rfl) T.b_str (by decide +kernel) rfl) pa_nil))) (pe_one (pe_callB (cr_all rfl) (by rfl) T.b_all (by decide +kernel) (pa_cons (pe_lc (own := [("sign", 1)]) rfl S.nd (pi_str (pv 0)) (blkOk_by (own := [("sign", 1)]) (N := ["value", "sign"]) (sc := defScope s_is_letter_row) (by decide +kernel)) (fun _ _ _ _ _ => (pg_name (i := 1) S.nd rfl (.inl rfl))) (fun _ _ _ _ _ => pts_nil) (fun _ _ _ _ _ => (pe_cmpR op_in_sign (pv 1) (pe_gs T.g_LETTERS (by rfl)) rfl))) pa_nil)))))), ?_⟩
    refine ⟨v, rfl, _, v, d, _, rfl, hd, str_ty d, _, rfl, ?_⟩
    rcases isstr hd with ⟨x, rfl, rfl⟩ | hn
    · refine iteT ⟨_, rfl, x, rfl, fun D nD => ?_⟩
      have hx := hk x rfl
      refine lc_it walk_str (fun i H' => Same H H' ∧ H' D = some (.lst (((x.cps.toList.map fun c => decide (c ∈ LET.cps.toList)).take i).map V.bl))) ⟨same_new nD, upd_same⟩ (fun _ _ _ _ => trivial) (fun i v H1 H2 hi hP hy => ?_) (fun H1 hP => ?_)
      · obtain ⟨rfl, c, hc, rfl⟩ := hy
        obtain ⟨sm, hD⟩ := hP
        refine ⟨rfl, ?_⟩
        refine yes_go ?_
        refine ⟨_, rfl, c, LET, rfl, rfl, _, hD, ?_, ?_, ?_⟩
        · rw [List.length_map, List.length_take, List.length_map]
          have : x.cps.toList.length = x.length := rfl
          exact small1000 (by omega)
        · exact fun b o e => by
            rw [upd_ne (ne_of_none e nD)]
            exact sm _ _ e
        · rw [upd_same, List.take_add_one, List.map_append]
          have e : (x.cps.toList.map fun c => decide (c ∈ LET.cps.toList))[i]? = some (decide (c ∈ LET.cps.toList)) := by
            rw [List.getElem?_map, Array.getElem?_toList, hc]
            rfl
          rw [e]
          rfl
      · obtain ⟨sm, hD⟩ := hP
        refine ⟨D, x.cps.toList.map fun c => decide (c ∈ LET.cps.toList), rfl, ?_, ?_⟩
        · refine SqL.of ?_
          rw [hD, List.take_of_length_le (by rw [List.length_map]; exact Nat.le_refl _)]
        · have e : ((x.cps.toList.map fun c => decide (c ∈ LET.cps.toList)).all id) = rowD (.str x) := by
            rw [List.all_map]
            rfl
          rw [e]
          exact q _ sm
    · have e1 : isS d = false := by
        cases d <;> first | rfl | exact absurd rfl (hn _)
      have e2 : rowD d = false := by
        cases d <;> first | rfl | exact absurd rfl (hn _)
      rw [e1]
      refine iteF ?_
      have z := q H (Same.refl H)
      rw [e2] at z
      exact z
theorem qeq {Q : VK} {a b : Bool} {H : Hp} (h : Q (.bl a) H) (e : a = b) : Q (.bl b) H := e ▸ h
theorem row_no {d : PyData} (hn : ∀ x, d ≠ .str x) : rowD d = false := by
  cases d <;> first | rfl | exact absurd rfl (hn _)
theorem name_no {d : PyData} (hn : ∀ x, d ≠ .str x) : nameD d = false := by
  cases d <;> first | rfl | exact absurd rfl (hn _)
theorem text_no {d : PyData} (hn : ∀ x, d ≠ .str x) : textD d = false := by
  cases d <;> first | rfl | exact absurd rfl (hn _)
theorem isS_no {d : PyData} (hn : ∀ x, d ≠ .str x) : isS d = false := by
  cases d <;> first | rfl | exact absurd rfl (hn _)
theorem dle {a b : Nat} : decide ((a : Int) ≤ (b : Int)) = decide (a ≤ b) := by
  by_cases h : a ≤ b
  · rw [decide_eq_true h, decide_eq_true (by omega)]
  · rw [decide_eq_false h, decide_eq_false (by omega)]
-- 4 is_name
abbrev s_is_name : Stmt := top 4
theorem sc_is_name : FnScope ["value"] ["value"] (defScope s_is_name) := ⟨rfl, rfl, rfl, by decide +kernel, rfl, by decide +kernel, by decide +kernel⟩
theorem ok_is_name (T : Txt mg) (p : Pl K mg "is_name" s_is_name ["value"] f fd) (D_is_letter_row : Dfn P w K mg base 1 "is_letter_row" ["value"] (spD rowD)) : Dfn P w K mg base 2 "is_name" ["value"] (spD nameD) := by
  have S := sc_is_name
  refine p.d (Fun_okG p.F S (fun vs H Q E h => ?_) (fun cdv A out s H vs Q E hgd hr h => ?_))
  · obtain ⟨v, d, rfl, _⟩ := h
    rfl
  · obtain ⟨v, d, rfl, hd, hk, q⟩ := h
    refine ⟨_, (pss_one (ps_ret (pe_and (pd_call D_is_letter_row hgd (hr.mono (by decide)) (by rfl) (pa_cons (pv 0) pa_nil)) (pe_one (pe_chain op_le op_le pe_int (pe_callB call_len_str (by rfl) T.b_len (by decide +kernel) (pa_cons (pv 0) pa_nil)) (pe_gs T.g_LONGEST_NAME (by rfl))))))), ?_⟩
    refine ⟨v, rfl, v, d, rfl, hd, hk, fun H1 s1 => ⟨_, rfl, ?_⟩⟩
    have q1 := q H1 s1
    rcases isstr hd with ⟨x, rfl, rfl⟩ | hn
    · have hx := hk x rfl
      refine ite2 (fun e => ?_) (fun e => ?_)
      · have e' : letB x = true := e
        refine ⟨_, rfl, x, rfl, Nat.le_of_lt (small1000 hx), _, _, rfl, rfl, _, rfl, ite2 (fun e1 => ⟨_, _, rfl, rfl, ?_⟩) (fun e1 => ?_)⟩
        · have e2 := of_decide_eq_true e1
          refine qeq q1 ?_
          show (letB x && (decide (1 ≤ x.length) && decide (x.length ≤ 8))) = decide ((x.length : Int) ≤ 8)
          rw [e', decide_eq_true (by omega : 1 ≤ x.length), Bool.true_and, Bool.true_and]
          exact dle.symm
        · have e2 : ¬ (1 : Int) ≤ x.length := fun z => e1 (decide_eq_true z)
          refine qeq q1 ?_
          show (letB x && (decide (1 ≤ x.length) && decide (x.length ≤ 8))) = false
          rw [decide_eq_false (by omega : ¬ 1 ≤ x.length), Bool.false_and, Bool.and_false]
      · have e' : letB x = false := by
          have z : rowD (.str x) = false := by simpa using e
          exact z
        refine qeq q1 ?_
        show (letB x && _) = false
        rw [e', Bool.false_and]
    · rw [row_no hn]
      refine iteF (qeq q1 (name_no hn))
-- 5 is_text
abbrev s_is_text : Stmt := top 5
theorem sc_is_text : FnScope ["value"] ["value"] (defScope s_is_text) := ⟨rfl, rfl, rfl, by decide +kernel, rfl, by decide +kernel, by decide +kernel⟩
theorem ok_is_text (T : Txt mg) (p : Pl K mg "is_text" s_is_text ["value"] f fd) (D_is_letter_row : Dfn P w K mg base 1 "is_letter_row" ["value"] (spD rowD)) : Dfn P w K mg base 2 "is_text" ["value"] (spD textD) := by
  have S := sc_is_text
  refine p.d (Fun_okG p.F S (fun vs H Q E h => ?_) (fun cdv A out s H vs Q E hgd hr h => ?_))
  · obtain ⟨v, d, rfl, _⟩ := h
    rfl
  · obtain ⟨v, d, rfl, hd, hk, q⟩ := h
    refine ⟨_, (pss_one (ps_ret (pe_and (pd_call D_is_letter_row hgd (hr.mono (by decide)) (by rfl) (pa_cons (pv 0) pa_nil)) (pe_one (pe_cmpR op_le (pe_callB call_len_str (by rfl) T.b_len (by decide +kernel) (pa_cons (pv 0) pa_nil)) (pe_gs T.g_LONGEST_TEXT (by rfl)) (nomark _)))))), ?_⟩
    refine ⟨v, rfl, v, d, rfl, hd, hk, fun H1 s1 => ⟨_, rfl, ?_⟩⟩
    have q1 := q H1 s1
    rcases isstr hd with ⟨x, rfl, rfl⟩ | hn
    · have hx := hk x rfl
      refine ite2 (fun e => ?_) (fun e => ?_)
      · have e' : letB x = true := e
        refine ⟨_, rfl, x, rfl, Nat.le_of_lt (small1000 hx), _, _, rfl, rfl, ?_⟩
        refine qeq q1 ?_
        show (letB x && decide (x.length ≤ 12)) = decide ((x.length : Int) ≤ 12)
        rw [e', Bool.true_and]
        exact dle.symm
      · have e' : letB x = false := by
          have z : rowD (.str x) = false := by simpa using e
          exact z
        refine qeq q1 ?_
        show (letB x && _) = false
        rw [e', Bool.false_and]
    · rw [row_no hn]
      refine iteF (qeq q1 (text_no hn))
-- 6 is_number
abbrev s_is_number : Stmt := top 6
theorem sc_is_number : FnScope ["value"] ["value"] (defScope s_is_number) := ⟨rfl, rfl, rfl, by decide +kernel, rfl, by decide +kernel, by decide +kernel⟩
theorem ok_is_number (T : Txt mg) (p : Pl K mg "is_number" s_is_number ["value"] f fd) : Dfn P w K mg base 1 "is_number" ["value"] (spD numD) := by
  have S := sc_is_number
  refine p.d (Fun_okG p.F S (fun vs H Q E h => ?_) (fun cdv A out s H vs Q E hgd hr h => ?_))
  · obtain ⟨v, d, rfl, _⟩ := h
    rfl
  · obtain ⟨v, d, rfl, hd, hk, q⟩ := h
    refine ⟨_, (pss_one (ps_ret (pe_and (pe_callB call_isD (by rfl) T.b_isinstance (by decide +kernel) (pa_cons (pv 0) (pa_cons (pe_bltn (v := .ty "int") (by rfl) T.b_int (by decide +kernel) rfl) pa_nil))) (pe_and (pe_not (pe_callB call_isD (by rfl) T.b_isinstance (by decide +kernel) (pa_cons (pv 0) (pa_cons (pe_bltn (v := .ty "bool") (by rfl) T.b_bool (by decide +kernel) rfl) pa_nil)))) (pe_one (pe_cmpR op_ge (pv 0) pe_int (nomark _))))))), ?_⟩
    have q1 := q H (Same.refl H)
    refine ⟨v, rfl, _, v, d, _, rfl, hd, int_ty d, _, rfl, ?_⟩
    cases hd with
    | int i => exact iteT ⟨_, rfl, _, _, _, _, rfl, .int i, bool_ty _, _, rfl, _, rfl, iteT ⟨_, rfl, _, _, rfl, rfl, q1⟩⟩
    | bl b => exact iteT ⟨_, rfl, _, _, _, _, rfl, .bl b, bool_ty _, _, rfl, _, rfl, iteF q1⟩
    | _ => exact iteF q1
-- 7 is_flag
abbrev s_is_flag : Stmt := top 7
theorem sc_is_flag : FnScope ["value"] ["value"] (defScope s_is_flag) := ⟨rfl, rfl, rfl, by decide +kernel, rfl, by decide +kernel, by decide +kernel⟩
theorem ok_is_flag (T : Txt mg) (p : Pl K mg "is_flag" s_is_flag ["value"] f fd) : Dfn P w K mg base 1 "is_flag" ["value"] (spD flagD) := by
  have S := sc_is_flag
  refine p.d (Fun_okG p.F S (fun vs H Q E h => ?_) (fun cdv A out s H vs Q E hgd hr h => ?_))
  · obtain ⟨v, d, rfl, _⟩ := h
    rfl
  · obtain ⟨v, d, rfl, hd, hk, q⟩ := h
    refine ⟨_, (pss_one (ps_ret (pe_callB call_isD (by rfl) T.b_isinstance (by decide +kernel) (pa_cons (pv 0) (pa_cons (pe_bltn (v := .ty "bool") (by rfl) T.b_bool (by decide +kernel) rfl) pa_nil))))), ?_⟩
    have q1 := q H (Same.refl H)
    refine ⟨v, rfl, _, v, d, _, rfl, hd, bool_ty d, qeq q1 ?_⟩
    cases d <;> rfl
/-- a value by which texts, numbers or flags are sorted -/
def ScV (v : V) : Prop := (∃ x, v = .str x ∧ x.length ≤ 1000) ∨ (∃ i, v = .int i) ∨ ∃ b, v = .bl b
def spKey : Sp := fun vs H Q _ => ∃ v, vs = [v] ∧ ScV v ∧ ∀ H' k, Same H H' → KeyV H' k v → Q k H'
-- 8 value_key
abbrev s_value_key : Stmt := top 8
theorem sc_value_key : FnScope ["value"] ["value"] (defScope s_value_key) := ⟨rfl, rfl, rfl, by decide +kernel, rfl, by decide +kernel, by decide +kernel⟩
theorem ok_value_key (T : Txt mg) (p : Pl K mg "value_key" s_value_key ["value"] f fd) : Dfn P w K mg base 1 "value_key" ["value"] spKey := by
  have S := sc_value_key
  refine p.d (Fun_okG p.F S (fun vs H Q E h => ?_) (fun cdv A out s H vs Q E hgd hr h => ?_))
  · obtain ⟨v, rfl, _⟩ := h
    rfl
  · obtain ⟨v, rfl, sv, q⟩ := h
    refine ⟨_, (pss_cons (ps_if (pt_val (pe_callB call_isD (by rfl) T.b_isinstance (by decide +kernel) (pa_cons (pv 0) (pa_cons (pe_bltn (v := .ty "str") (by rfl) T.b_str (by decide +kernel) rfl) pa_nil))))
      (pss_one (ps_ret (pe_tup (pa_cons (pe_callB call_len_str (by rfl) T.b_len (by decide +kernel) (pa_cons (pv 0) pa_nil)) (pa_cons (pv 0) pa_nil)))))
      pss_nil)
    (pss_one (ps_ret (pv 0)))), ?_⟩
    rcases sv with ⟨x, rfl, hx⟩ | ⟨i, rfl⟩ | ⟨b, rfl⟩
    · refine ⟨_, rfl, _, _, _, _, rfl, .str x, str_ty _, _, rfl, iteT ?_⟩
      refine ⟨_, rfl, x, rfl, Nat.le_of_lt (small1000 hx), _, rfl, by show 2 ≤ sizeLine; decide, fun p hp => ?_⟩
      exact q _ _ (same_new hp) (.str x upd_same)
    · refine ⟨_, rfl, _, _, _, _, rfl, .int i, str_ty _, _, rfl, iteF ?_⟩
      exact ⟨_, rfl, q _ _ (Same.refl H) (.int i)⟩
    · refine ⟨_, rfl, _, _, _, _, rfl, .bl b, str_ty _, _, rfl, iteF ?_⟩
      exact ⟨_, rfl, q _ _ (Same.refl H) (.bl b)⟩
def spBef : Sp := fun vs H Q _ => ∃ a b, vs = [a, b] ∧ ScV a ∧ ScV b ∧ sameK a b ∧ Q (.bl (befV a b)) H
-- 18 _law_before
abbrev s_law_before : Stmt := top 18
theorem sc_law_before : FnScope ["one", "other"] ["one", "other"] (defScope s_law_before) := ⟨rfl, rfl, rfl, by decide +kernel, rfl, by decide +kernel, by decide +kernel⟩
theorem ok_law_before (T : Txt mg) (p : Pl K mg "_law_before" s_law_before ["one", "other"] f fd) : Dfn P w K mg base 1 "_law_before" ["one", "other"] spBef := by
  have S := sc_law_before
  refine p.d (Fun_okG p.F S (fun vs H Q E h => ?_) (fun cdv A out s H vs Q E hgd hr h => ?_))
  · obtain ⟨a, b, rfl, _⟩ := h
    rfl
  · obtain ⟨a, b, rfl, sa, sb, sk, q⟩ := h
    refine ⟨_, (pss_cons (ps_if (pt_val (pe_callB call_isD (by rfl) T.b_isinstance (by decide +kernel) (pa_cons (pv 0) (pa_cons (pe_bltn (v := .ty "str") (by rfl) T.b_str (by decide +kernel) rfl) pa_nil))))
      (pss_one (ps_ret (pe_or (pe_cmpR op_lt (pe_callB call_len_str (by rfl) T.b_len (by decide +kernel) (pa_cons (pv 0) pa_nil)) (pe_callB call_len_str (by rfl) T.b_len (by decide +kernel) (pa_cons (pv 1) pa_nil)) (nomark _)) (pe_one (pe_and (pe_cmpR op_eq (pe_callB call_len_str (by rfl) T.b_len (by decide +kernel) (pa_cons (pv 0) pa_nil)) (pe_callB call_len_str (by rfl) T.b_len (by decide +kernel) (pa_cons (pv 1) pa_nil)) (nomark _)) (pe_one (pe_cmpR op_lt_str (pv 0) (pv 1) (nomark _))))))))
      pss_nil)
    (pss_one (ps_ret (pe_cmpR (op_ltK hr.units0) (pv 0) (pv 1) (nomark _))))), ?_⟩
    rcases sa with ⟨x, rfl, hx⟩ | ⟨i, rfl⟩ | ⟨a, rfl⟩
    · rcases sb with ⟨y, rfl, hy⟩ | ⟨j, rfl⟩ | ⟨b, rfl⟩
      · have hx' := Nat.le_of_lt (small1000 hx)
        have hy' := Nat.le_of_lt (small1000 hy)
        refine ⟨_, rfl, _, _, _, _, rfl, .str x, str_ty _, _, rfl, iteT ?_⟩
        refine ⟨_, rfl, x, rfl, hx', _, rfl, y, rfl, hy', _, _, rfl, rfl, _, rfl, ?_⟩
        refine ite2 (fun e => qeq q ?_) (fun e => ?_)
        · have e1 := of_decide_eq_true e
          show (decide (x.length < y.length) || _) = true
          rw [decide_eq_true (by omega : x.length < y.length), Bool.true_or]
        · have e1 : ¬ (x.length : Int) < y.length := fun z => e (decide_eq_true z)
          refine ⟨_, rfl, x, rfl, hx', _, rfl, y, rfl, hy', rfl, _, rfl, ite2 (fun e2 => ?_) (fun e2 => ?_)⟩
          · have e3 : V.int (x.length : Int) = V.int y.length := of_decide_eq_true e2
            injection e3 with e3
            refine ⟨_, rfl, _, rfl, _, _, rfl, rfl, qeq q ?_⟩
            show (decide (x.length < y.length) || (decide (x.length = y.length) && decide (x.cps.toList < y.cps.toList))) = _
            rw [decide_eq_false (by omega : ¬ x.length < y.length), decide_eq_true (by omega : x.length = y.length), Bool.false_or, Bool.true_and]
          · have e3 : ¬ V.int (x.length : Int) = V.int y.length := fun z => e2 (decide_eq_true z)
            refine qeq q ?_
            show (decide (x.length < y.length) || (decide (x.length = y.length) && decide (x.cps.toList < y.cps.toList))) = _
            rw [decide_eq_false (by omega : ¬ x.length < y.length), decide_eq_false (fun z => e3 (by rw [z])), Bool.false_or, Bool.false_and]
      · exact sk.elim
      · exact sk.elim
    · rcases sb with ⟨y, rfl, hy⟩ | ⟨j, rfl⟩ | ⟨b, rfl⟩
      · exact sk.elim
      · refine ⟨_, rfl, _, _, _, _, rfl, .int i, str_ty _, _, rfl, iteF ?_⟩
        exact ⟨_, rfl, _, rfl, _, _, .int i, .int j, sk, q⟩
      · exact sk.elim
    · rcases sb with ⟨y, rfl, hy⟩ | ⟨j, rfl⟩ | ⟨b, rfl⟩
      · exact sk.elim
      · exact sk.elim
      · refine ⟨_, rfl, _, _, _, _, rfl, .bl a, str_ty _, _, rfl, iteF ?_⟩
        exact ⟨_, rfl, _, rfl, _, _, .bl a, .bl b, sk, q⟩
end
end K1
set_option maxHeartbeats 4000000
namespace K1
open PySem PySem.Spec PyProof.Rows L2 Zk
section
variable {P : Program} {w : World} {K : PySem.W.Frag} {mg : Str → Option Value} {base : Heap} {f : Addr} {fd : FuncData}
-- 11 _law_well
abbrev s_law_well : Stmt := top 11
theorem sc_law_well : FnScope ["script", "start", "mixed", "entry", "digits"] ["script", "start"] (defScope s_law_well) := ⟨rfl, rfl, rfl, by decide +kernel, rfl, by decide +kernel, by decide +kernel⟩
theorem ok_law_well (T : Txt mg) (p : Pl K mg "_law_well" s_law_well ["script", "start"] f fd) : Dfn P w K mg base 1 "_law_well" ["script", "start"] (spWell K) := by
  have S := sc_law_well
  refine p.d (Fun_okG p.F S (fun vs H Q E h => ?_) (fun cdv A out s H vs Q E hgd hr h => ?_))
  · obtain ⟨a, ns, j, rfl, _⟩ := h
    rfl
  · obtain ⟨a, ns, j, rfl, hS, hlen, hb, j0, j1, q⟩ := h
    refine ⟨_, (pss_cons (ps_set (i := 2) S.nd rfl (.inl rfl) (pe_op op_add pe_int (pe_op op_mulG (pv 1) pe_int)))
    (pss_cons (ps_for PassesOwn.never rfl (pi_list (pv 0)) (pg_name (i := 3) S.nd rfl (.inl rfl))
      (pss_one (ps_set (i := 2) S.nd rfl (.inl rfl) (pe_op op_add (pe_op op_mod (pe_callTy call_int1 (by rfl) T.b_int (by decide +kernel) (pa_cons (pe_op op_powG (pe_op op_add (pe_op op_add (pe_op op_mulG (pv 2) pe_int) (pe_op op_mulG (pv 3) (pv 3))) pe_int) pe_int) pa_nil)) pe_int) pe_int))))
    (pss_cons (ps_set (i := 4) S.nd rfl (.inl rfl) (pe_ifExp (PW.pt (pw_and (pt_cmpR op_lt (pv 1) (pe_callB call_len_seq (by rfl) T.b_len (by decide +kernel) (pa_cons (pv 0) pa_nil)) (nomark _)) (pw_and1 (pt_cmpR op_ge (pe_ix ix_list (pv 0) (pv 1) (fun _ _ => rfl)) (pe_op op_powG pe_int pe_int) (nomark _))))) (pe_op op_sub (pe_ix ix_list (pv 0) (pv 1) (fun _ _ => rfl)) (pe_op op_powG pe_int pe_int)) pe_int))
    (pss_one (ps_ret (pe_disp (pps_cons pe_str (pv 4) (pps_cons pe_str (pv 2) pps_nil)) (by rfl) (by rfl) (fun z => by cases z) (by decide))))))), ?_⟩
    have bj : bits j ≤ 10 := bits_nn j0 (by omega)
    have b83 : bits 83 ≤ 7 := bits_nn (by decide) (by decide)
    refine ⟨_, rfl, _, _, rfl, rfl, (by show bits j + bits 83 ≤ 2 ^ 26; omega), _, _, rfl, rfl, ?_⟩
    refine ⟨_, rfl, a, rfl, ⟨_, hS⟩, for_list (K := K) (a := a) (xs := ns.map V.int) (fun i σ H' => H' = H ∧ ∃ (m : Int) (y : Option V), σ = [some (.ref a), some (.int j), some (.int m), y, none] ∧ 0 ≤ m ∧ m < 2 ^ 32)
      ⟨rfl, _, none, rfl, by omega, by omega⟩ (fun i σ H' _ hP => by rw [hP.1]; exact hS) (fun i x σ H' hx hP => ?_) (fun σ H' hP => ?_)⟩
    · obtain ⟨rfl, m, y, rfl, m0, m1⟩ := hP
      obtain ⟨e, he, rfl⟩ : ∃ e, e ∈ ns ∧ x = V.int e := by
        rw [List.getElem?_map] at hx
        cases z : ns[i]? with
        | none =>
          rw [z] at hx
          cases hx
        | some e =>
          rw [z] at hx
          exact ⟨e, List.mem_of_getElem? z, (Option.some.inj hx).symm⟩
      have be := hb e he
      have bm : bits m ≤ 32 := bits_nn m0 m1
      have b7 : bits 70121 ≤ 17 := bits_nn (by decide) (by decide)
      have b41 : bits 41 ≤ 6 := bits_nn (by decide) (by decide)
      have p1 := bits_mul m 70121
      have p2 := bits_mul e e
      have p3 : bits (m * 70121 + e * e) ≤ 2097153 := bits_add (n := 2097152) (by omega) (by omega)
      have p4 : bits (m * 70121 + e * e + 41) ≤ 2097154 := bits_add p3 (by omega)
      refine ⟨_, rfl, _, _, rfl, rfl, (by show bits m + bits 70121 ≤ 2 ^ 26; omega), _, rfl, _, rfl, _, _, rfl, rfl, (by show bits e + bits e ≤ 2 ^ 26; omega), _, _, rfl, rfl, _, _, rfl, rfl, _, _, rfl, rfl, ⟨by decide, ?_⟩, .inl ⟨_, rfl, _, _, rfl, rfl, (by show (0 : Int) < 2147483563; decide), _, _, rfl, rfl, rfl, _, _, rfl, ?_, ?_⟩⟩
      · show (bits (m * 70121 + e * e + 41) : Int) * 2 ≤ 2 ^ 27
        omega
      · have := Int.emod_nonneg ((m * 70121 + e * e + 41) ^ (2 : Int).toNat) (by decide : (2147483563 : Int) ≠ 0)
        omega
      · have := Int.emod_lt_of_pos ((m * 70121 + e * e + 41) ^ (2 : Int).toNat) (by decide : (0 : Int) < 2147483563)
        omega
    · obtain ⟨rfl, m, y, rfl, m0, m1⟩ := hP
      -- the end: whatever digits are
      have fin : ∀ d : Int, 0 ≤ d → bits d ≤ 2000000 → ∀ p, H' p = none → Q (.ref p) (upd (upd H' p (.dK [])) p (wellO d m)) := fun d d0 d1 p np => by
        rw [upd_upd]
        exact q _ _ (same_new np) np ⟨d, m, upd_same, d0, d1, m0, m1⟩
      have ret : ∀ d : Int, 0 ≤ d → bits d ≤ 2000000 → ∀ p, H' p = none → Q (.ref p) (upd (upd H' p (.dK [])) p (.dK (mergeK [] [(kD, V.int d), (kM, V.int m)]))) := fun d d0 d1 p np => by
        rw [well_merge]
        exact fin d d0 d1 p np
      refine ⟨_, rfl, _, rfl, a, _, rfl, .inl hS, _, _, rfl, rfl, _, rfl, ?_⟩
      have small : bits 0 ≤ 2000000 := by decide
      refine ite2 (fun e => ?_) (fun e => ?_)
      · have e1 : j < ((ns.map V.int).length : Int) := of_decide_eq_true e
        rw [List.length_map] at e1
        obtain ⟨k, rfl⟩ : ∃ k : Nat, j = k := ⟨j.toNat, by omega⟩
        have hk : k < ns.length := by omega
        have g : (ns.map V.int)[k]? = some (.int ns[k]) := by
          rw [List.getElem?_map, List.getElem?_eq_getElem hk]
          rfl
        have b10 : bits 10 ≤ 4 := bits_nn (by decide) (by decide)
        have hp : (0 : Int) ≤ 18 ∧ (bits 10 : Int) * 18 ≤ 2 ^ 27 := ⟨by decide, by omega⟩
        refine ⟨_, rfl, _, rfl, a, _, _, _, rfl, rfl, hS, atI_nat g, _, _, rfl, rfl, hp, _, _, rfl, rfl, _, rfl, ?_⟩
        refine ite2 (fun e2 => ?_) (fun e2 => ?_)
        · have e3 := of_decide_eq_true e2
          refine ⟨_, rfl, _, rfl, a, _, _, _, rfl, rfl, hS, atI_nat g, _, _, rfl, rfl, hp, _, _, rfl, rfl, fun p np => ?_⟩
          refine ⟨_, rfl, _, rfl, upd_same, [(kD, _), (kM, _)], rfl, by show 2 ≤ 15; decide, ?_⟩
          refine ret _ (by omega) ?_ p np
          refine Nat.le_trans (bits_le (j := ns[k]) ?_) (Nat.le_trans (hb _ (List.getElem_mem hk)) (by decide))
          have z : (0 : Int) ≤ 10 ^ (18 : Int).toNat := by decide
          omega
        · refine fun p np => ?_
          refine ⟨_, rfl, _, rfl, upd_same, [(kD, _), (kM, _)], rfl, by show 2 ≤ 15; decide, ?_⟩
          exact ret 0 (by decide) small p np
      · refine fun p np => ?_
        refine ⟨_, rfl, _, rfl, upd_same, [(kD, _), (kM, _)], rfl, by show 2 ≤ 15; decide, ?_⟩
        exact ret 0 (by decide) small p np
-- 12 _law_draw
abbrev s_law_draw : Stmt := top 12
theorem sc_law_draw : FnScope ["well", "bound", "found"] ["well", "bound"] (defScope s_law_draw) := ⟨rfl, rfl, rfl, by decide +kernel, rfl, by decide +kernel, by decide +kernel⟩
theorem ok_law_draw (T : Txt mg) (p : Pl K mg "_law_draw" s_law_draw ["well", "bound"] f fd) : Dfn P w K mg base 1 "_law_draw" ["well", "bound"] spDraw := by
  have S := sc_law_draw
  refine p.d (Fun_okG p.F S (fun vs H Q E h => ?_) (fun cdv A out s H vs Q E hgd hr h => ?_))
  · obtain ⟨p, b, rfl, _⟩ := h
    rfl
  · obtain ⟨p, b, rfl, ⟨d, m, hw, d0, d1, m0, m1⟩, b0, b1, q⟩ := h
    refine ⟨_, (pss_cons (ps_if (pt_cmpR op_ge (pe_dget (hu_of hr) (pv 0) pe_str (fun _ _ => rfl)) (pv 1) (nomark _))
      (pss_cons (ps_set (i := 2) S.nd rfl (.inl rfl) (pe_op op_mod (pe_callTy call_int1 (by rfl) T.b_int (by decide +kernel) (pa_cons (pe_dget (hu_of hr) (pv 0) pe_str (fun _ _ => rfl)) pa_nil)) (pv 1)))
      (pss_cons (ps_dput (hu_of hr) (pv 0) pe_str (pe_op op_fdiv (pe_dget (hu_of hr) (pv 0) pe_str (fun _ _ => rfl)) (pv 1)) rfl)
      (pss_one (ps_ret (pv 2)))))
      pss_nil)
    (pss_cons (ps_dput (hu_of hr) (pv 0) pe_str (pe_op op_mod (pe_callTy call_int1 (by rfl) T.b_int (by decide +kernel) (pa_cons (pe_op op_add (pe_op op_mulG (pe_dget (hu_of hr) (pv 0) pe_str (fun _ _ => rfl)) pe_int) pe_int) pa_nil)) pe_int) rfl)
    (pss_one (ps_ret (pe_op op_mod (pe_op op_fdiv (pe_op op_mod (pe_callTy call_int1 (by rfl) T.b_int (by decide +kernel) (pa_cons (pe_op op_powG (pe_op op_mod (pe_callTy call_int1 (by rfl) T.b_int (by decide +kernel) (pa_cons (pe_op op_powG (pe_dget (hu_of hr) (pv 0) pe_str (fun _ _ => rfl)) pe_int) pa_nil)) pe_int) pe_int) pa_nil)) pe_int) pe_int) (pv 1)))))), ?_⟩
    refine ⟨_, rfl, p, _, rfl, wellD hw, _, rfl, _, _, rfl, rfl, _, rfl, ite2 (fun e => ?_) (fun e => ?_)⟩
    · refine ⟨_, rfl, p, _, rfl, wellD hw, .inl ⟨_, rfl, _, rfl, _, _, rfl, rfl, b0, ?_⟩⟩
      refine ⟨_, rfl, p, _, rfl, wellD hw, _, rfl, _, _, rfl, rfl, ⟨b0, by omega⟩, _, rfl, p, _, rfl, wellPD hw, ?_⟩
      refine ⟨_, rfl, ?_⟩
      refine q _ _ ExB.put ⟨d / b, m, upd_same, Int.ediv_nonneg d0 (by omega), ?_, m0, m1⟩ (Int.emod_nonneg _ (by omega)) (Int.emod_lt_of_pos _ b0)
      refine Nat.le_trans (bits_le ?_) d1
      have := Int.ediv_le_self b d0
      have := Int.ediv_nonneg d0 (Int.le_of_lt b0)
      omega
    · have bm : bits m ≤ 32 := bits_nn m0 m1
      have b4 : bits 48821 ≤ 16 := bits_nn (by decide) (by decide)
      refine ⟨_, rfl, p, _, rfl, wellM hw, _, _, rfl, rfl, (by show bits m + bits 48821 ≤ 2 ^ 26; omega), _, _, rfl, rfl, .inl ⟨_, rfl, _, _, rfl, rfl, (by show (0 : Int) < 2147483647; decide), ?_⟩⟩
      have n0 := Int.emod_nonneg (m * 48821 + 6073) (by decide : (2147483647 : Int) ≠ 0)
      have n1 := Int.emod_lt_of_pos (m * 48821 + 6073) (by decide : (0 : Int) < 2147483647)
      have bm2 : bits ((m * 48821 + 6073) % 2147483647) ≤ 32 := bits_nn n0 (by omega)
      refine ⟨_, rfl, p, _, rfl, wellPM hw, ?_⟩
      refine ⟨_, rfl, p, _, rfl, wellM upd_same, _, _, rfl, rfl, ⟨by decide, (by show (bits ((m * 48821 + 6073) % 2147483647) : Int) * 2 ≤ 2 ^ 27; omega)⟩, .inl ⟨_, rfl, _, _, rfl, rfl, (by show (0 : Int) < 2147483587; decide), ?_⟩⟩
      have k0 := Int.emod_nonneg (((m * 48821 + 6073) % 2147483647) ^ (2 : Int).toNat) (by decide : (2147483587 : Int) ≠ 0)
      have k1 := Int.emod_lt_of_pos (((m * 48821 + 6073) % 2147483647) ^ (2 : Int).toNat) (by decide : (0 : Int) < 2147483587)
      have bm3 : bits (((m * 48821 + 6073) % 2147483647) ^ (2 : Int).toNat % 2147483587) ≤ 32 := bits_nn k0 (by omega)
      refine ⟨_, _, rfl, rfl, ⟨by decide, (by show (bits (((m * 48821 + 6073) % 2147483647) ^ (2 : Int).toNat % 2147483587) : Int) * 3 ≤ 2 ^ 27; omega)⟩, .inl ⟨_, rfl, _, _, rfl, rfl, (by show (0 : Int) < 1000000087; decide), _, _, rfl, rfl, ⟨by decide, by decide⟩, _, rfl, _, _, rfl, rfl, b0, ?_⟩⟩
      exact q _ _ ExB.put ⟨d, _, upd_same, d0, d1, n0, by omega⟩ (Int.emod_nonneg _ (by omega)) (Int.emod_lt_of_pos _ b0)
-- 13 _law_choose
abbrev s_law_choose : Stmt := top 13
theorem sc_law_choose : FnScope ["well", "things"] ["well", "things"] (defScope s_law_choose) := ⟨rfl, rfl, rfl, by decide +kernel, rfl, by decide +kernel, by decide +kernel⟩
theorem ok_law_choose (T : Txt mg) (p : Pl K mg "_law_choose" s_law_choose ["well", "things"] f fd) (D_law_draw : Dfn P w K mg base 1 "_law_draw" ["well", "bound"] spDraw) : Dfn P w K mg base 2 "_law_choose" ["well", "things"] (spChoose K) := by
  have S := sc_law_choose
  refine p.d (Fun_okG p.F S (fun vs H Q E h => ?_) (fun cdv A out s H vs Q E hgd hr h => ?_))
  · obtain ⟨p, t, xs, rfl, _⟩ := h
    rfl
  · obtain ⟨p, t, xs, rfl, hw, hS, hne, hl, q⟩ := h
    refine ⟨_, (pss_one (ps_ret (pe_ix ix_list (pv 1) (pd_call D_law_draw hgd (hr.mono (by decide)) (by rfl) (pa_cons (pv 0) (pa_cons (pe_callB call_len_seq (by rfl) T.b_len (by decide +kernel) (pa_cons (pv 1) pa_nil)) pa_nil))) (fun _ _ => rfl)))), ?_⟩
    have h0 : 0 < xs.length := by
      cases xs with
      | nil => exact absurd rfl hne
      | cons => exact Nat.succ_pos _
    refine ⟨_, rfl, _, rfl, _, rfl, t, xs, rfl, .inl hS, p, xs.length, rfl, hw, by omega, by omega, fun H1 r e1 w1 r0 r1 => ?_⟩
    obtain ⟨j, rfl⟩ : ∃ j : Nat, r = j := ⟨r.toNat, by omega⟩
    have hj : j < xs.length := by omega
    exact ⟨t, xs, j, xs[j], rfl, rfl, seq_exb hw hS e1, atI_nat (List.getElem?_eq_getElem hj), q _ _ e1 w1 (List.getElem_mem hj)⟩
end
end K1
set_option maxHeartbeats 4000000
namespace K1
open PySem PySem.Spec PyProof.Rows L2 Zk
def okS (d : PyData) : Prop := ∀ x, d = .str x → ∀ c ∈ x.cps.toList, PyData.strOk ⟨#[c]⟩ = true
def spLetters : Sp := fun vs H Q _ => ∃ x : Str, vs = [.str x] ∧ x.length ≤ 1000 ∧ okS (.str x) ∧ ∀ H', Same H H' → Q (.bl (letB x)) H'
def spDue : Sp := fun vs H Q _ => ∃ v d, vs = [v] ∧ Dx H v d ∧ okD d ∧ okS d ∧ ∀ H' p, Same H H' → H' p = some (.lst [.bl (nameD d), .bl (textD d), .bl (numD d), .bl (flagD d)]) → Q (.ref p) H'
/-- what may be shown by repr -/
def okR (d : PyData) : Bool := d.showable && decide (d.shown.length ≤ 1000) && decide (d.depth ≤ 40) && !(hasL d && d.hasDict) && (match d with | .str x => decide (x.length ≤ 1000) && x.cps.toList.all (fun c => PyData.strOk ⟨#[c]⟩) | _ => true)
def spRight : Sp := fun vs H Q _ => ∃ v d, vs = [v] ∧ Dx H v d ∧ okR d = true ∧ ∀ H', Same H H' → Q (.bl true) H'
structure OkR (d : PyData) : Prop where
  sh : d.showable = true
  sz : d.shown.length ≤ sizeLine
  dp : d.depth ≤ 40
  nl : hasL d = true → d.hasDict = true → False
  ok : okD d
  os : okS d
theorem okR_of {d : PyData} (h : okR d = true) : OkR d := by
  unfold okR at h
  simp only [Bool.and_eq_true, decide_eq_true_eq, Bool.not_eq_true', Bool.and_eq_false_iff] at h
  obtain ⟨⟨⟨⟨h1, h2⟩, h3⟩, h4⟩, h5⟩ := h
  refine ⟨h1, Nat.le_of_lt (small1000 h2), h3, fun a b => ?_, fun x e => ?_, fun x e => ?_⟩
  · rcases h4 with h4 | h4
    · rw [a] at h4
      cases h4
    · rw [b] at h4
      cases h4
  · subst e
    simp only [Bool.and_eq_true, decide_eq_true_eq] at h5
    exact h5.1
  · subst e
    simp only [Bool.and_eq_true, decide_eq_true_eq, List.all_eq_true] at h5
    exact h5.2
theorem shaped_signs (l : List Nat) (hl : ∀ c ∈ l, PyData.strOk ⟨#[c]⟩ = true) : SeqAt.shaped (.list (l.map fun c => PyData.str ⟨#[c]⟩)) = true := by
  have h1 : ∀ l : List Nat, (∀ c ∈ l, PyData.strOk ⟨#[c]⟩ = true) → PyData.canLayAll0 (l.map fun c => PyData.str ⟨#[c]⟩) = true := fun l => by
    induction l with
    | nil => exact fun _ => rfl
    | cons c l ih =>
      intro h
      have h2 := ih fun c hc => h c (List.mem_cons_of_mem _ hc)
      have h3 := h c List.mem_cons_self
      simpa [PyData.canLayAll0, PyData.canLay0, h3] using h2
  have h2 : ∀ l : List Nat, PyData.depthAll (l.map fun c => PyData.str ⟨#[c]⟩) ≤ 1 := fun l => by
    induction l with
    | nil => simp [PyData.depthAll]
    | cons c l ih => simp [PyData.depthAll, PyData.depth] <;> omega
  unfold SeqAt.shaped
  rw [Bool.and_eq_true]
  refine ⟨by simpa [PyData.canLay0] using h1 l hl, decide_eq_true ?_⟩
  have := h2 l
  simp only [PyData.depth]
  omega
theorem dpAll_signs {K : PySem.W.Frag} {H : Hp} : ∀ l : List Nat, DpAll K H (l.map fun c => V.str ⟨#[c]⟩) (l.map fun c => PyData.str ⟨#[c]⟩)
  | [] => .nil
  | c :: l => .cons (.str _) (dpAll_signs l)
theorem eqv_signs (l : List Nat) : PyData.eqv (.list (l.map fun c => PyData.str ⟨#[c]⟩)) (.list []) = l.isEmpty := by
  cases l with
  | nil => rfl
  | cons c l => simp [PyData.eqv, PyData.eqvAll]
section
variable {P : Program} {w : World} {K : PySem.W.Frag} {mg : Str → Option Value} {base : Heap} {f : Addr} {fd : FuncData}
-- 14 _law_letters
abbrev s_law_letters : Stmt := top 14
theorem sc_law_letters : FnScope ["thing", "sign"] ["thing"] (defScope s_law_letters) := ⟨rfl, rfl, rfl, by decide +kernel, rfl, by decide +kernel, by decide +kernel⟩
theorem ok_law_letters (T : Txt mg) (p : Pl K mg "_law_letters" s_law_letters ["thing"] f fd) : Dfn P w K mg base 1 "_law_letters" ["thing"] spLetters := by
  have S := sc_law_letters
  refine p.d (Fun_okG p.F S (fun vs H Q E h => ?_) (fun cdv A out s H vs Q E hgd hr h => ?_))
  · obtain ⟨x, rfl, _⟩ := h
    rfl
  · obtain ⟨x, rfl, hx, hs, q⟩ := h
    refine ⟨_, (pss_one (ps_ret (pe_cmpR (op_eqD hr.units) (pe_lc (own := [("sign", 1)]) rfl S.nd (pi_str (pv 0)) (blkOk_by (own := [("sign", 1)]) (N := ["thing", "sign"]) (sc := defScope s_law_letters) (by decide +kernel)) (fun _ _ _ _ _ => (pg_name (i := 1) S.nd rfl (.inl rfl))) (fun _ _ _ _ _ => (pts_one (pt_cmpR op_notIn_sign (pv 1) pe_str rfl))) (fun _ _ _ _ _ => (pv 1))) (pe_lst pa_nil) (nomark _)))), ?_⟩
    refine ⟨_, rfl, x, rfl, fun D nD => ?_⟩
    refine lc_it walk_str (fun i H' => Same H H' ∧ H' D = some (.lst (((x.cps.toList.take i).filter fun c => !decide (c ∈ LET.cps.toList)).map fun c => V.str ⟨#[c]⟩))) ⟨same_new nD, upd_same⟩ (fun _ _ _ _ => trivial) (fun i v H1 H2 hi hP hy => ?_) (fun H1 hP => ?_)
    · obtain ⟨rfl, c, hc, rfl⟩ := hy
      obtain ⟨sm, hD⟩ := hP
      have g : x.cps.toList[i]? = some c := by
        rw [Array.getElem?_toList]
        exact hc
      have tk : x.cps.toList.take (i + 1) = x.cps.toList.take i ++ [c] := by
        rw [List.take_add_one, g]
        rfl
      refine ⟨rfl, ⟨_, rfl, c, LET, rfl, rfl, _, rfl, ?_⟩⟩
      refine ite2 (fun e => ?_) (fun e => ?_)
      · refine ⟨_, rfl, _, hD, ?_, ?_, ?_⟩
        · rw [List.length_map]
          have h1 := List.length_filter_le (fun c => !decide (c ∈ LET.cps.toList)) (x.cps.toList.take i)
          rw [List.length_take] at h1
          have : x.cps.toList.length = x.length := rfl
          exact small1000 (by omega)
        · exact fun b o z => by
            rw [upd_ne (ne_of_none z nD)]
            exact sm _ _ z
        · rw [upd_same, tk, List.filter_append, List.map_append]
          have e2 : List.filter (fun c => !decide (c ∈ LET.cps.toList)) [c] = [c] := by
            rw [List.filter_cons, if_pos e]
            rfl
          rw [e2]
          rfl
      · refine ⟨sm, ?_⟩
        rw [hD, tk, List.filter_append]
        have e2 : List.filter (fun c => !decide (c ∈ LET.cps.toList)) [c] = [] := by
          rw [List.filter_cons, if_neg e]
          rfl
        rw [e2, List.append_nil]
    · obtain ⟨sm, hD⟩ := hP
      have e1 : x.cps.toList.take x.cps.size = x.cps.toList := List.take_of_length_le (Nat.le_refl _)
      rw [e1] at hD
      refine ⟨Nat.zero_le _, fun l nl => ?_⟩
      have nDl : D ≠ l := ne_of_none hD nl
      refine ⟨_, _, .lst (SqL.of (by rw [upd_ne nDl]; exact hD)) (dpAll_signs _), .lst (SqL.of upd_same) .nil, shaped_signs _ (fun c hc => hs x rfl c ((List.mem_filter.mp hc).1)), by decide, ?_⟩
      rw [eqv_signs]
      refine qeq (q _ (sm.trans (same_new nl))) ?_
      unfold letB
      generalize x.cps.toList = l
      induction l with
      | nil => rfl
      | cons c l ih =>
        rw [List.all_cons, List.filter_cons, ih]
        by_cases z : c ∈ LET.cps.toList
        · rw [decide_eq_true z, Bool.true_and, if_neg (by decide)]
        · rw [decide_eq_false z, Bool.false_and, if_pos (by decide)]
          rfl
-- 15 _law_due
abbrev s_law_due : Stmt := top 15
theorem sc_law_due : FnScope ["thing", "is_word", "is_bool", "is_count", "fits"] ["thing"] (defScope s_law_due) := ⟨rfl, rfl, rfl, by decide +kernel, rfl, by decide +kernel, by decide +kernel⟩
theorem ok_law_due (T : Txt mg) (p : Pl K mg "_law_due" s_law_due ["thing"] f fd) (D_law_letters : Dfn P w K mg base 1 "_law_letters" ["thing"] spLetters) : Dfn P w K mg base 2 "_law_due" ["thing"] spDue := by
  have S := sc_law_due
  refine p.d (Fun_okG p.F S (fun vs H Q E h => ?_) (fun cdv A out s H vs Q E hgd hr h => ?_))
  · obtain ⟨v, d, rfl, _⟩ := h
    rfl
  · obtain ⟨v, d, rfl, hd, hk, hs, q⟩ := h
    refine ⟨_, (pss_cons (ps_par (i := 1) (j := 2) (by rfl) S.nd rfl rfl (by decide) rfl rfl (pa_cons (pe_callB call_isD (by rfl) T.b_isinstance (by decide +kernel) (pa_cons (pv 0) (pa_cons (pe_bltn (v := .ty "str") (by rfl) T.b_str (by decide +kernel) rfl) pa_nil))) (pa_cons (pe_callB call_isD (by rfl) T.b_isinstance (by decide +kernel) (pa_cons (pv 0) (pa_cons (pe_bltn (v := .ty "bool") (by rfl) T.b_bool (by decide +kernel) rfl) pa_nil))) pa_nil)) (by rfl))
    (pss_cons (ps_set (i := 3) S.nd rfl (.inl rfl) (pe_and (pe_callB call_isD (by rfl) T.b_isinstance (by decide +kernel) (pa_cons (pv 0) (pa_cons (pe_bltn (v := .ty "int") (by rfl) T.b_int (by decide +kernel) rfl) pa_nil))) (pe_and (pe_not (pv 2)) (pe_one (pe_cmpR op_ge (pv 0) pe_int (nomark _))))))
    (pss_cons (ps_set (i := 4) S.nd rfl (.inl rfl) (pe_and (pv 1) (pe_one (pd_call D_law_letters hgd (hr.mono (by decide)) (by rfl) (pa_cons (pv 0) pa_nil)))))
    (pss_one (ps_ret (pe_lst (pa_cons (pe_and (pv 4) (pe_one (pe_chain op_le op_le pe_int (pe_callB call_len_str (by rfl) T.b_len (by decide +kernel) (pa_cons (pv 0) pa_nil)) pe_int))) (pa_cons (pe_and (pv 4) (pe_one (pe_cmpR op_le (pe_callB call_len_str (by rfl) T.b_len (by decide +kernel) (pa_cons (pv 0) pa_nil)) pe_int (nomark _)))) (pa_cons (pv 3) (pa_cons (pv 2) pa_nil)))))))))), ?_⟩
    have mk : ∀ (H1 : Hp) (a b c e : Bool), Same H H1 → a = nameD d → b = textD d → c = numD d → e = flagD d → (∀ p, H1 p = none → Q (.ref p) (upd H1 p (.lst [.bl a, .bl b, .bl c, .bl e]))) := fun H1 a b c e s1 ea eb ec ee p np => by
      subst ea eb ec ee
      exact q _ p (s1.trans (same_new np)) upd_same
    have z4 : 4 ≤ sizeLine := by decide
    refine ⟨v, rfl, _, v, d, _, rfl, hd, str_ty d, v, rfl, _, v, d, _, rfl, hd, bool_ty d, _, _, rfl, ?_⟩
    refine ⟨v, rfl, _, v, d, _, rfl, hd, int_ty d, _, rfl, ?_⟩
    have hd2 := hd
    cases hd with
    | str x =>
      have hx := hk x rfl
      have hx' := Nat.le_of_lt (small1000 hx)
      refine iteF ⟨_, rfl, _, rfl, iteT ⟨_, rfl, x, rfl, hx, hs, fun H1 s1 => ?_⟩⟩
      cases e' : letB x with
      | true =>
        have nm : nameD (.str x) = (decide (1 ≤ x.length) && decide (x.length ≤ 8)) := by
          show (letB x && _) = _
          rw [e', Bool.true_and]
        have tx : textD (.str x) = decide (x.length ≤ 12) := by
          show (letB x && _) = _
          rw [e', Bool.true_and]
        refine ⟨_, rfl, _, rfl, iteT ⟨_, rfl, x, rfl, hx', _, _, rfl, rfl, _, rfl, ?_⟩⟩
        refine ite2 (fun e1 => ?_) (fun e1 => ?_)
        · have e2 := of_decide_eq_true e1
          refine ⟨_, _, rfl, rfl, _, rfl, _, rfl, iteT ⟨_, rfl, x, rfl, hx', _, _, rfl, rfl, _, rfl, _, rfl, z4, mk _ _ _ _ _ s1 ?_ ?_ rfl rfl⟩⟩
          · rw [nm, decide_eq_true (by omega : 1 ≤ x.length), Bool.true_and]
            exact dle
          · rw [tx]
            exact dle
        · have e2 : ¬ (1 : Int) ≤ x.length := fun z => e1 (decide_eq_true z)
          refine ⟨_, rfl, _, rfl, iteT ⟨_, rfl, x, rfl, hx', _, _, rfl, rfl, _, rfl, _, rfl, z4, mk _ _ _ _ _ s1 ?_ ?_ rfl rfl⟩⟩
          · rw [nm, decide_eq_false (by omega : ¬ 1 ≤ x.length), Bool.false_and]
          · rw [tx]
            exact dle
      | false =>
        refine ⟨_, rfl, _, rfl, iteF ⟨_, rfl, _, rfl, iteF ⟨_, rfl, _, rfl, z4, mk _ _ _ _ _ s1 ?_ ?_ rfl rfl⟩⟩⟩
        · show false = (letB x && _)
          rw [e', Bool.false_and]
        · show false = (letB x && _)
          rw [e', Bool.false_and]
    | int i => exact iteT ⟨_, rfl, _, rfl, _, rfl, iteT ⟨_, rfl, _, _, rfl, rfl, _, rfl, _, rfl, iteF ⟨_, rfl, _, rfl, iteF ⟨_, rfl, _, rfl, iteF ⟨_, rfl, _, rfl, z4, mk _ _ _ _ _ (Same.refl H) rfl rfl rfl rfl⟩⟩⟩⟩⟩
    | bl b => exact iteT ⟨_, rfl, _, rfl, _, rfl, iteF ⟨_, rfl, _, rfl, iteF ⟨_, rfl, _, rfl, iteF ⟨_, rfl, _, rfl, iteF ⟨_, rfl, _, rfl, z4, mk _ _ _ _ _ (Same.refl H) rfl rfl rfl rfl⟩⟩⟩⟩⟩
    | _ => exact iteF ⟨_, rfl, _, rfl, iteF ⟨_, rfl, _, rfl, iteF ⟨_, rfl, _, rfl, iteF ⟨_, rfl, _, rfl, z4, mk _ _ _ _ _ (Same.refl H) rfl rfl rfl rfl⟩⟩⟩⟩
end
end K1
set_option maxHeartbeats 8000000
namespace K1
open PySem PySem.Spec PyProof.Rows L2 Zk
def ANYS : List PyData := [.none, .bool true, .bool false, .int 0, .int 1, .int (-1), .int (10 ^ (59 : Int).toNat), .str "", .str "a", .str "abcdefgh", .str "abcdefghi", .str (Txt.mul "a" ((12 : Nat) : Int)), .str (Txt.mul "a" ((13 : Nat) : Int)), .str "A", .str "a b",
  .str "a.b", .str "a1", .str "top", .str "a\n", .tuple [], .tuple [.str "a"], .list [.str "a"], .list [], .dict [], .dict [(.str "a", .int 1)], .int (-5), .int 7]
theorem anys_ok : ANYS.all okR = true := by decide +kernel
theorem DxA.mem {H : Hp} : ∀ {vs : List V} {ds : List PyData} {v : V}, DxA H vs ds → v ∈ vs → ∃ d, d ∈ ds ∧ Dx H v d
  | _, _, _, .nil, h => by cases h
  | _, _, _, .cons h r, m => by
    rcases List.mem_cons.mp m with rfl | m
    · exact ⟨_, List.mem_cons_self, h⟩
    · obtain ⟨d, hd, x⟩ := DxA.mem r m
      exact ⟨d, List.mem_cons_of_mem _ hd, x⟩
def spAny : Sp := fun vs H Q _ => ∃ p, vs = [.ref p] ∧ WellAt H p ∧ ∀ H' v d, ExB p H H' → WellAt H' p → Dx (hid p H') v d → okR d = true → Q v H'
theorem hid_at {p a : Addr} {H : Hp} {o : HO} (n : p ≠ a) (h : H a = some o) : hid p H a = some o := by
  rw [hid_ne n.symm]
  exact h
theorem okd_str {x : Str} (h : x.length ≤ 1000) : okD (.str x) := fun y e => by
  cases e
  exact h
section
variable {P : Program} {w : World} {K : PySem.W.Frag} {mg : Str → Option Value} {base : Heap} {f : Addr} {fd : FuncData}
-- 16 _law_any
abbrev s_law_any : Stmt := top 16
theorem sc_law_any : FnScope ["well", "some"] ["well"] (defScope s_law_any) := ⟨rfl, rfl, rfl, by decide +kernel, rfl, by decide +kernel, by decide +kernel⟩
theorem ok_law_any (T : Txt mg) (p : Pl K mg "_law_any" s_law_any ["well"] f fd) (D_law_choose : Dfn P w K mg base 2 "_law_choose" ["well", "things"] (spChoose K)) : Dfn P w K mg base 3 "_law_any" ["well"] spAny := by
  have S := sc_law_any
  refine p.d (Fun_okG p.F S (fun vs H Q E h => ?_) (fun cdv A out s H vs Q E hgd hr h => ?_))
  · obtain ⟨p, rfl, _⟩ := h
    rfl
  · obtain ⟨p, rfl, hw, q⟩ := h
    refine ⟨_, (pss_cons (ps_set (i := 1) S.nd rfl (.inl rfl) (pe_lst (pa_cons pe_non (pa_cons pe_bl (pa_cons pe_bl (pa_cons pe_int (pa_cons pe_int (pa_cons (pe_un un_neg pe_int) (pa_cons (pe_op op_powG pe_int pe_int) (pa_cons pe_str (pa_cons pe_str (pa_cons pe_str (pa_cons pe_str (pa_cons (pe_op op_mulS pe_str pe_int) (pa_cons (pe_op op_mulS pe_str pe_int) (pa_cons pe_str (pa_cons pe_str pa_nil)))))))))))))))))
    (pss_cons (ps_set (i := 1) S.nd rfl (.inl rfl) (pe_op op_cat (pv 1) (pe_lst (pa_cons pe_str (pa_cons pe_str (pa_cons pe_str (pa_cons pe_str (pa_cons (pe_tup pa_nil) (pa_cons (pe_tup (pa_cons pe_str pa_nil)) (pa_cons (pe_lst (pa_cons pe_str pa_nil)) (pa_cons (pe_lst pa_nil) (pa_cons pe_dnewK (pa_cons (pe_disp (pps_cons pe_str pe_int pps_nil) (by rfl) (by rfl) (fun z => by cases z) (by decide)) (pa_cons (pe_un un_neg pe_int) (pa_cons pe_int pa_nil)))))))))))))))
    (pss_one (ps_ret (pd_call D_law_choose hgd (hr.mono (by decide)) (by rfl) (pa_cons (pv 0) (pa_cons (pv 1) pa_nil))))))), ?_⟩
    have b10 : bits 10 ≤ 4 := bits_nn (by decide) (by decide)
    refine ⟨1, rfl, 10, 59, rfl, rfl, ⟨by decide, (by show (bits 10 : Int) * 59 ≤ 2 ^ 27; omega)⟩, "a", 12, rfl, rfl, by decide, by decide, "a", 13, rfl, rfl, by decide, by decide, (by show 15 ≤ sizeLine; decide), fun l1 n1 => ?_⟩
    have p1 : p ≠ l1 := by
      obtain ⟨_, _, e, _⟩ := hw
      exact ne_of_none e n1
    have S1 := same_new (o := .lst [.non, .bl true, .bl false, .int 0, .int 1, .int (-1), .int (10 ^ (59 : Int).toNat), .str "", .str "a", .str "abcdefgh", .str "abcdefghi", .str (Txt.mul "a" ((12 : Nat) : Int)), .str (Txt.mul "a" ((13 : Nat) : Int)), .str "A", .str "a b"]) n1
    have w1 := hw.same S1
    refine ⟨_, rfl, Nat.zero_le _, fun t1 m1 => ?_⟩
    have p2 : p ≠ t1 := by
      obtain ⟨_, _, e, _⟩ := w1
      exact ne_of_none e m1
    have S2 := same_new (o := .tup []) m1
    have w2 := w1.same S2
    refine ⟨(by show 1 ≤ sizeLine; decide), fun t2 m2 => ?_⟩
    have p3 : p ≠ t2 := by
      obtain ⟨_, _, e, _⟩ := w2
      exact ne_of_none e m2
    have S3 := same_new (o := .tup [.str "a"]) m2
    have w3 := w2.same S3
    refine ⟨(by show 1 ≤ sizeLine; decide), fun l2 m3 => ?_⟩
    have p4 : p ≠ l2 := by
      obtain ⟨_, _, e, _⟩ := w3
      exact ne_of_none e m3
    have S4 := same_new (o := .lst [.str "a"]) m3
    have w4 := w3.same S4
    refine ⟨Nat.zero_le _, fun l3 m4 => ?_⟩
    have p5 : p ≠ l3 := by
      obtain ⟨_, _, e, _⟩ := w4
      exact ne_of_none e m4
    have S5 := same_new (o := .lst []) m4
    have w5 := w4.same S5
    refine fun d1 m5 => ?_
    have p6 : p ≠ d1 := by
      obtain ⟨_, _, e, _⟩ := w5
      exact ne_of_none e m5
    have S6 := same_new (o := .dK []) m5
    have w6 := w5.same S6
    refine fun d2 m6 => ⟨upd_same, [(Sum.inr "a", .int 1)], rfl, (by show 1 ≤ 15; decide), ?_⟩
    have p7 : p ≠ d2 := by
      obtain ⟨_, _, e, _⟩ := w6
      exact ne_of_none e m6
    rw [upd_upd]
    have em : mergeK [] [((Sum.inr "a" : Key), V.int 1)] = [((Sum.inr "a" : Key), V.int 1)] := rfl
    rw [em]
    have S7 := same_new (o := .dK [((Sum.inr "a" : Key), V.int 1)]) m6
    have w7 := w6.same S7
    refine ⟨5, rfl, (by show 12 ≤ sizeLine; decide), fun l4 m7 => ?_⟩
    have S8 := same_new (o := .lst [.str "a.b", .str "a1", .str "top", .str "a\n", .ref t1, .ref t2, .ref l2, .ref l3, .ref d1, .ref d2, .int (-5), .int 7]) m7
    have w8 := w7.same S8
    refine ⟨l1, l4, _, _, rfl, rfl, S8 _ _ (S7 _ _ (S6 _ _ (S5 _ _ (S4 _ _ (S3 _ _ (S2 _ _ upd_same)))))), upd_same, (by show 15 + 12 ≤ sizeLine; decide), fun l5 m8 => ?_⟩
    have S9 := same_new (o := .lst [.non, .bl true, .bl false, .int 0, .int 1, .int (-1), .int (10 ^ (59 : Int).toNat), .str "", .str "a", .str "abcdefgh", .str "abcdefghi", .str (Txt.mul "a" ((12 : Nat) : Int)), .str (Txt.mul "a" ((13 : Nat) : Int)), .str "A", .str "a b",
      .str "a.b", .str "a1", .str "top", .str "a\n", .ref t1, .ref t2, .ref l2, .ref l3, .ref d1, .ref d2, .int (-5), .int 7]) m8
    have w9 := w8.same S9
    have T3 := S8.trans S9
    have T4 := S7.trans T3
    have T5 := S6.trans T4
    have T6 := S5.trans T5
    have T7 := S4.trans T6
    have T8 := S3.trans T7
    have all := S1.trans (S2.trans T8)
    have dx : DxA (hid p (upd _ l5 _)) _ ANYS :=
      .cons .non (.cons (.bl _) (.cons (.bl _) (.cons (.int _) (.cons (.int _) (.cons (.int _) (.cons (.int _) (.cons (.str _) (.cons (.str _) (.cons (.str _) (.cons (.str _) (.cons (.str _) (.cons (.str _) (.cons (.str _) (.cons (.str _)
      (.cons (.str _) (.cons (.str _) (.cons (.str _) (.cons (.str _)
      (.cons (.tup (.inl (hid_at p2 (T8 _ _ upd_same))) .nil) (.cons (.tup (.inl (hid_at p3 (T7 _ _ upd_same))) (.cons (.str _) .nil)) (.cons (.lst (.inl (hid_at p4 (T6 _ _ upd_same))) (.cons (.str _) .nil))
      (.cons (.lst (.inl (hid_at p5 (T5 _ _ upd_same))) .nil) (.cons (.dic (.inl (hid_at p6 (T4 _ _ upd_same))) .nil) (.cons (.dic (.inl (hid_at p7 (T3 _ _ upd_same))) (.cons (k := Sum.inr "a") (.int 1) .nil))
      (.cons (.int _) (.cons (.int _) .nil))))))))))))))))))))))))))
    refine ⟨_, rfl, _, rfl, p, l5, _, rfl, w9, SqL.of upd_same, (fun z => by cases z), (by show 27 ≤ 1000000; decide), fun H' v e1 w' hv => ?_⟩
    obtain ⟨d, hdm, hdx⟩ := DxA.mem dx hv
    exact q _ _ d ((ExB.of all).trans e1) w' (hdx.mono e1.hid) (List.all_eq_true.mp anys_ok d hdm)
-- 17 _law_right
abbrev s_law_right : Stmt := top 17
theorem sc_law_right : FnScope ["thing", "seen", "told"] ["thing"] (defScope s_law_right) := ⟨rfl, rfl, rfl, by decide +kernel, rfl, by decide +kernel, by decide +kernel⟩
theorem ok_law_right (T : Txt mg) (p : Pl K mg "_law_right" s_law_right ["thing"] f fd) (D_is_name : Dfn P w K mg base 2 "is_name" ["value"] (spD nameD)) (D_is_text : Dfn P w K mg base 2 "is_text" ["value"] (spD textD)) (D_is_number : Dfn P w K mg base 1 "is_number" ["value"] (spD numD)) (D_is_flag : Dfn P w K mg base 1 "is_flag" ["value"] (spD flagD)) (D_law_due : Dfn P w K mg base 2 "_law_due" ["thing"] spDue) : Dfn P w K mg base 3 "_law_right" ["thing"] spRight := by
  have S := sc_law_right
  refine p.d (Fun_okG p.F S (fun vs H Q E h => ?_) (fun cdv A out s H vs Q E hgd hr h => ?_))
  · obtain ⟨v, d, rfl, _⟩ := h
    rfl
  · obtain ⟨v, d, rfl, hd, hk, q⟩ := h
    have R := okR_of hk
    have SY : False → ∃ o, base.get? sysModules = some o := fun z => z.elim
    refine ⟨_, (pss_cons (ps_set (i := 1) S.nd rfl (.inl rfl) (pe_callB (call_repr SY hgd hr.units) (by rfl) T.b_repr (by decide +kernel) (pa_cons (pv 0) pa_nil)))
    (pss_cons (ps_set (i := 2) S.nd rfl (.inl rfl) (pe_lst (pa_cons (pd_call D_is_name hgd (hr.mono (by decide)) (by rfl) (pa_cons (pv 0) pa_nil)) (pa_cons (pd_call D_is_text hgd (hr.mono (by decide)) (by rfl) (pa_cons (pv 0) pa_nil)) (pa_cons (pd_call D_is_number hgd (hr.mono (by decide)) (by rfl) (pa_cons (pv 0) pa_nil)) (pa_cons (pd_call D_is_flag hgd (hr.mono (by decide)) (by rfl) (pa_cons (pv 0) pa_nil)) pa_nil))))))
    (pss_one (ps_ret (pe_and (pe_cmpR op_eq (pe_callB (call_repr SY hgd hr.units) (by rfl) T.b_repr (by decide +kernel) (pa_cons (pv 2) pa_nil)) (pe_callB (call_repr SY hgd hr.units) (by rfl) T.b_repr (by decide +kernel) (pa_cons (pd_call D_law_due hgd (hr.mono (by decide)) (by rfl) (pa_cons (pv 0) pa_nil)) pa_nil)) (nomark _)) (pe_one (pe_cmpR op_eq (pe_callB (call_repr SY hgd hr.units) (by rfl) T.b_repr (by decide +kernel) (pa_cons (pv 0) pa_nil)) (pv 1) (nomark _)))))))), ?_⟩
    refine ⟨v, rfl, v, d, rfl, hd, R.sh, R.sz, R.dp, R.nl, ?_⟩
    refine ⟨_, rfl, v, d, rfl, hd, R.ok, fun H1 s1 => ?_⟩
    refine ⟨_, rfl, v, d, rfl, hd.mono s1, R.ok, fun H2 s2 => ?_⟩
    have s02 := s1.trans s2
    refine ⟨_, rfl, v, d, rfl, hd.mono s02, R.ok, fun H3 s3 => ?_⟩
    have s03 := s02.trans s3
    refine ⟨_, rfl, v, d, rfl, hd.mono s03, R.ok, fun H4 s4 => ⟨(by show 4 ≤ sizeLine; decide), fun p np => ?_⟩⟩
    have s04 := s03.trans s4
    have s5 := same_new (o := .lst [.bl (nameD d), .bl (textD d), .bl (numD d), .bl (flagD d)]) np
    have s05 := s04.trans s5
    have shown : ∀ a b c e : Bool, PyData.showable (.list [.bool a, .bool b, .bool c, .bool e]) = true ∧ (PyData.shown (.list [.bool a, .bool b, .bool c, .bool e])).length ≤ 1000 ∧ PyData.depth (.list [.bool a, .bool b, .bool c, .bool e]) ≤ 40 ∧ PyData.hasDict (.list [.bool a, .bool b, .bool c, .bool e]) = false := by decide +kernel
    obtain ⟨sh1, sh2, sh3, sh4⟩ := shown (nameD d) (textD d) (numD d) (flagD d)
    have row : ∀ {H' : Hp} {p : Addr}, H' p = some (.lst [.bl (nameD d), .bl (textD d), .bl (numD d), .bl (flagD d)]) → Dx H' (.ref p) (.list [.bool (nameD d), .bool (textD d), .bool (numD d), .bool (flagD d)]) := fun h =>
      .lst (.inl h) (.cons (.bl _) (.cons (.bl _) (.cons (.bl _) (.cons (.bl _) .nil))))
    refine ⟨_, rfl, _, _, rfl, row upd_same, sh1, Nat.le_of_lt (small1000 sh2), sh3, (fun _ z => by rw [sh4] at z; cases z), ?_⟩
    refine ⟨v, rfl, v, d, rfl, hd.mono s05, R.ok, R.os, fun H6 p6 s6 h6 => ?_⟩
    refine ⟨_, _, rfl, row h6, sh1, Nat.le_of_lt (small1000 sh2), sh3, (fun _ z => by rw [sh4] at z; cases z), rfl, _, rfl, ?_⟩
    rw [decide_eq_true rfl]
    refine iteT ⟨v, rfl, v, d, rfl, hd.mono (s05.trans s6), R.sh, R.sz, R.dp, R.nl, _, rfl, rfl, ?_⟩
    rw [decide_eq_true rfl]
    exact q _ (s05.trans s6)
end
end K1
set_option maxHeartbeats 8000000
namespace K1
open PySem PySem.Spec PyProof.Rows L2 Zk
def spLaw (K : PySem.W.Frag) : Sp := fun vs H Q _ => ∃ (a : Addr) (ns : List Int), vs = [.ref a] ∧ SqL K H a (ns.map V.int) ∧ ns.length ≤ 63 ∧ (∀ z ∈ ns, bits z ≤ 1048576) ∧ ∀ H', Q (.bl true) H'
theorem KeyV.mono {H H' : Hp} {k v : V} (h : KeyV H k v) (s : Same H H') : KeyV H' k v := by
  cases h with
  | str x e => exact .str x (s _ _ e)
  | int i => exact .int i
  | bl b => exact .bl b
def SOME : List V := [.str "", .str "a", .str "b", .str "ab", .str "aa", .str "z", .str "ba", .str "abcdefghijkl", .str "abcdefghijkm", .str "zzz"]
def isStr (v : V) : Bool := match v with | .str x => decide (x.length ≤ 1000) | _ => false
def isInt (v : V) : Bool := match v with | .int _ => true | _ => false
theorem some_str : ∀ v ∈ SOME, isStr v = true := by
  have h : SOME.all isStr = true := by decide +kernel
  exact List.all_eq_true.mp h
/-- a row of values of one kind -/
def RowOk (vs : List V) : Prop := (∀ v ∈ vs, ScV v) ∧ ∀ v ∈ vs, ∀ u ∈ vs, sameK v u
theorem rowStr {vs : List V} (h : ∀ v ∈ vs, isStr v = true) : RowOk vs := by
  have one : ∀ v ∈ vs, ∃ x, v = .str x ∧ x.length ≤ 1000 := fun v hv => by
    have z := h v hv
    cases v with
    | str x => exact ⟨x, rfl, by simpa [isStr] using z⟩
    | _ => exact absurd z (by simp [isStr])
  refine ⟨fun v hv => .inl (one v hv), fun v hv u hu => ?_⟩
  obtain ⟨x, rfl, _⟩ := one v hv
  obtain ⟨y, rfl, _⟩ := one u hu
  trivial
theorem rowInt {vs : List V} (h : ∀ v ∈ vs, isInt v = true) : RowOk vs := by
  have one : ∀ v ∈ vs, ∃ i, v = .int i := fun v hv => by
    have z := h v hv
    cases v with
    | int i => exact ⟨i, rfl⟩
    | _ => exact absurd z (by simp [isInt])
  refine ⟨fun v hv => .inr (.inl (one v hv)), fun v hv u hu => ?_⟩
  obtain ⟨x, rfl⟩ := one v hv
  obtain ⟨y, rfl⟩ := one u hu
  trivial
theorem rowBl {vs : List V} (h : ∀ v ∈ vs, ∃ b, v = .bl b) : RowOk vs := by
  refine ⟨fun v hv => .inr (.inr (h v hv)), fun v hv u hu => ?_⟩
  obtain ⟨x, rfl⟩ := h v hv
  obtain ⟨y, rfl⟩ := h u hu
  trivial
def SIGNS : Str := " !\"#$&'()*+,-./0123456789:;<=>?@ABCDEFGHIJKLMNOPQRSTUVWXYZ[\\]^_`{|}~\n\t"
abbrev sg (c : Nat) : Str := ⟨#[c]⟩
theorem let_facts : ∀ c ∈ LET.cps.toList, nameD (.str (sg c)) = true ∧ textD (.str ("a" ++ sg c)) = true ∧ nameD (.str ("ab" ++ sg c)) = true := by decide +kernel
theorem sign_facts : ∀ c ∈ SIGNS.cps.toList, nameD (.str (sg c)) = false ∧ textD (.str ("a" ++ sg c)) = false ∧ textD (.str (sg c ++ "a")) = false ∧ nameD (.str (("a" ++ sg c) ++ "b")) = false ∧
    nameD (.str ("abcdefg" ++ sg c)) = false ∧ textD (.str ("abcdefghijk" ++ sg c)) = false ∧ textD (.str (("abcde" ++ sg c) ++ "f")) = false := by decide +kernel
theorem sg_len (c : Nat) : (sg c).length = 1 := rfl
theorem size_facts : ∀ i < 15, nameD (.str (Txt.mul "z" ((i : Nat) : Int))) = (decide ((1 : Int) ≤ (i : Nat)) && decide (((i : Nat) : Int) ≤ 8)) ∧ textD (.str (Txt.mul "z" ((i : Nat) : Int))) = decide (((i : Nat) : Int) ≤ 12) ∧ (Txt.mul "z" ((i : Nat) : Int)).length ≤ 1000 := by decide +kernel
section
variable {P : Program} {w : World} {K : PySem.W.Frag} {mg : Str → Option Value} {base : Heap} {f : Addr} {fd : FuncData}
-- 19 law
abbrev s_law : Stmt := top 19
theorem sc_law : FnScope ["script", "start", "well", "turn", "some", "texts", "numbers", "row", "one", "other", "sign", "size"] ["script"] (defScope s_law) := ⟨rfl, rfl, rfl, by decide +kernel, rfl, by decide +kernel, by decide +kernel⟩
theorem ok_law (T : Txt mg) (F : Fun K "law" "law" s_law f fd) (D_is_name : Dfn P w K mg base 2 "is_name" ["value"] (spD nameD)) (D_is_text : Dfn P w K mg base 2 "is_text" ["value"] (spD textD)) (D_is_number : Dfn P w K mg base 1 "is_number" ["value"] (spD numD)) (D_value_key : Dfn P w K mg base 1 "value_key" ["value"] spKey) (D_law_well : Dfn P w K mg base 1 "_law_well" ["script", "start"] (spWell K)) (D_law_choose : Dfn P w K mg base 2 "_law_choose" ["well", "things"] (spChoose K)) (D_law_any : Dfn P w K mg base 3 "_law_any" ["well"] spAny) (D_law_right : Dfn P w K mg base 3 "_law_right" ["thing"] spRight) (D_law_before : Dfn P w K mg base 1 "_law_before" ["one", "other"] spBef) : GOk P w K mg base CX0 4 f fd ["script"] (spLaw K) := by
  have S := sc_law
  refine Fun_okG F S (fun vs H Q E h => ?_) (fun cdv A out s H vs Q E hgd hr h => ?_)
  · obtain ⟨a, ns, rfl, _⟩ := h
    rfl
  · obtain ⟨a, ns, rfl, hS, hlen, hb, q⟩ := h
    refine ⟨_, (pss_cons (ps_for PassesOwn.never rfl (pi_range1 (by rfl) T.b_range (pa_cons (pe_callB (call_max2 rfl) (by rfl) T.b_max (by decide +kernel) (pa_cons pe_int (pa_cons (pe_callB (call_min2 rfl) (by rfl) T.b_min (by decide +kernel) (pa_cons pe_int (pa_cons (pe_callB call_len_seq (by rfl) T.b_len (by decide +kernel) (pa_cons (pv 0) pa_nil)) pa_nil))) pa_nil))) pa_nil)) (pg_name (i := 1) S.nd rfl (.inl rfl))
      (pss_cons (ps_set (i := 2) S.nd rfl (.inr rfl) (pd_call D_law_well hgd (hr.mono (by decide)) (by rfl) (pa_cons (pv 0) (pa_cons (pv 1) pa_nil))))
      (pss_cons (ps_for PassesOwn.never rfl (pi_range1 (by rfl) T.b_range (pa_cons pe_int pa_nil)) (pg_name (i := 3) S.nd rfl (.inl rfl))
        (pss_one (ps_if (pt_not (pt_val (pd_call D_law_right hgd (hr.mono (by decide)) (by rfl) (pa_cons (pd_call D_law_any hgd (hr.mono (by decide)) (by rfl) (pa_cons (pv 2) pa_nil)) pa_nil))))
          (pss_one (ps_ret pe_bl))
          pss_nil)))
      (pss_cons (ps_set (i := 4) S.nd rfl (.inr rfl) (pe_lst (pa_cons pe_str (pa_cons pe_str (pa_cons pe_str (pa_cons pe_str (pa_cons pe_str (pa_cons pe_str (pa_cons pe_str (pa_cons pe_str (pa_cons pe_str (pa_cons pe_str pa_nil))))))))))))
      (pss_cons (ps_setLc (i := 5) (own := [("turn", 3)]) rfl S.nd rfl rfl (sw_true rfl rfl rfl (by decide +kernel)) (pi_range1 (by rfl) T.b_range (pa_cons pe_int pa_nil)) (blkOk_by (own := [("turn", 3)]) (N := ["script", "start", "well", "turn", "some", "texts", "numbers", "row", "one", "other", "sign", "size"]) (sc := defScope s_law) (by decide +kernel)) (fun _ _ _ _ _ => (pg_name (i := 3) S.nd rfl (.inl rfl))) (fun _ _ _ _ _ => pts_nil) (fun _ _ _ _ _ => (pd_call D_law_choose hgd (hr.mono (by decide)) (by rfl) (pa_cons (pv 2) (pa_cons (pv 4) pa_nil)))))
      (pss_cons (ps_setLc (i := 6) (own := [("turn", 3)]) rfl S.nd rfl rfl (sw_true rfl rfl rfl (by decide +kernel)) (pi_range1 (by rfl) T.b_range (pa_cons pe_int pa_nil)) (blkOk_by (own := [("turn", 3)]) (N := ["script", "start", "well", "turn", "some", "texts", "numbers", "row", "one", "other", "sign", "size"]) (sc := defScope s_law) (by decide +kernel)) (fun _ _ _ _ _ => (pg_name (i := 3) S.nd rfl (.inl rfl))) (fun _ _ _ _ _ => pts_nil) (fun _ _ _ _ _ => (pd_call D_law_choose hgd (hr.mono (by decide)) (by rfl) (pa_cons (pv 2) (pa_cons (pe_lst (pa_cons pe_int (pa_cons pe_int (pa_cons pe_int (pa_cons pe_int (pa_cons pe_int (pa_cons (pe_op op_powG pe_int pe_int) pa_nil))))))) pa_nil)))))
      (pss_one (ps_for PassesOwn.never rfl (pi_list (pe_lst (pa_cons (pv 5) (pa_cons (pv 6) (pa_cons (pe_lst (pa_cons pe_bl (pa_cons pe_bl (pa_cons pe_bl pa_nil)))) pa_nil))))) (pg_name (i := 7) S.nd rfl (.inl rfl))
        (pss_one (ps_for PassesOwn.never rfl (pi_list (pv 7)) (pg_name (i := 8) S.nd rfl (.inl rfl))
          (pss_one (ps_for PassesOwn.never rfl (pi_list (pv 7)) (pg_name (i := 9) S.nd rfl (.inl rfl))
            (pss_one (ps_if (pt_cmpR op_ne (pe_cmpR (op_ltK hr.units0) (pd_call D_value_key hgd (hr.mono (by decide)) (by rfl) (pa_cons (pv 8) pa_nil)) (pd_call D_value_key hgd (hr.mono (by decide)) (by rfl) (pa_cons (pv 9) pa_nil)) (nomark _)) (pd_call D_law_before hgd (hr.mono (by decide)) (by rfl) (pa_cons (pv 8) (pa_cons (pv 9) pa_nil))) (nomark _))
              (pss_one (ps_ret pe_bl))
              pss_nil))))))))))))))
    (pss_cons (ps_for PassesOwn.never rfl (pi_str pe_str) (pg_name (i := 10) S.nd rfl (.inl rfl))
      (pss_one (ps_if (PW.pt (pw_or (pt_not (pt_val (pd_call D_is_name hgd (hr.mono (by decide)) (by rfl) (pa_cons (pv 10) pa_nil)))) (pw_or (pt_not (pt_val (pd_call D_is_text hgd (hr.mono (by decide)) (by rfl) (pa_cons (pe_op op_add_str pe_str (pv 10)) pa_nil)))) (pw_or1 (pt_not (pt_val (pd_call D_is_name hgd (hr.mono (by decide)) (by rfl) (pa_cons (pe_op op_add_str pe_str (pv 10)) pa_nil))))))))
        (pss_one (ps_ret pe_bl))
        pss_nil)))
    (pss_cons (ps_for PassesOwn.never rfl (pi_str pe_str) (pg_name (i := 10) S.nd rfl (.inl rfl))
      (pss_cons (ps_if (PW.pt (pw_or (pt_val (pd_call D_is_name hgd (hr.mono (by decide)) (by rfl) (pa_cons (pv 10) pa_nil))) (pw_or (pt_val (pd_call D_is_text hgd (hr.mono (by decide)) (by rfl) (pa_cons (pe_op op_add_str pe_str (pv 10)) pa_nil))) (pw_or (pt_val (pd_call D_is_text hgd (hr.mono (by decide)) (by rfl) (pa_cons (pe_op op_add_str (pv 10) pe_str) pa_nil))) (pw_or1 (pt_val (pd_call D_is_name hgd (hr.mono (by decide)) (by rfl) (pa_cons (pe_op op_add_str (pe_op op_add_str pe_str (pv 10)) pe_str) pa_nil))))))))
        (pss_one (ps_ret pe_bl))
        pss_nil)
      (pss_one (ps_if (PW.pt (pw_or (pt_val (pd_call D_is_name hgd (hr.mono (by decide)) (by rfl) (pa_cons (pe_op op_add_str pe_str (pv 10)) pa_nil))) (pw_or (pt_val (pd_call D_is_text hgd (hr.mono (by decide)) (by rfl) (pa_cons (pe_op op_add_str pe_str (pv 10)) pa_nil))) (pw_or1 (pt_val (pd_call D_is_text hgd (hr.mono (by decide)) (by rfl) (pa_cons (pe_op op_add_str (pe_op op_add_str pe_str (pv 10)) pe_str) pa_nil)))))))
        (pss_one (ps_ret pe_bl))
        pss_nil))))
    (pss_cons (ps_for PassesOwn.never rfl (pi_range1 (by rfl) T.b_range (pa_cons pe_int pa_nil)) (pg_name (i := 11) S.nd rfl (.inl rfl))
      (pss_one (ps_if (PW.pt (pw_or (pt_cmpR op_ne (pd_call D_is_name hgd (hr.mono (by decide)) (by rfl) (pa_cons (pe_op op_mulS pe_str (pv 11)) pa_nil)) (pe_chain op_le op_le pe_int (pv 11) pe_int) (nomark _)) (pw_or1 (pt_cmpR op_ne (pd_call D_is_text hgd (hr.mono (by decide)) (by rfl) (pa_cons (pe_op op_mulS pe_str (pv 11)) pa_nil)) (pe_cmpR op_le (pv 11) pe_int (nomark _)) (nomark _)))))
        (pss_one (ps_ret pe_bl))
        pss_nil)))
    (pss_one (ps_ret (pe_and (pe_cmpR op_is_bl (pd_call D_is_number hgd (hr.mono (by decide)) (by rfl) (pa_cons (pe_op op_powG pe_int pe_int) pa_nil)) pe_bl (nomark _)) (pe_and (pe_cmpR op_is_bl (pd_call D_is_number hgd (hr.mono (by decide)) (by rfl) (pa_cons pe_int pa_nil)) pe_bl (nomark _)) (pe_one (pe_cmpR op_is_bl (pd_call D_is_number hgd (hr.mono (by decide)) (by rfl) (pa_cons (pe_op op_sub pe_int pe_int) pa_nil)) pe_bl (nomark _))))))))))), ?_⟩
    refine ⟨_, rfl, a, _, rfl, .inl hS, _, _, rfl, _, _, rfl, _, rfl, ?_, ?_, ?_⟩
    · show -(2 ^ 62) ≤ (if (if ((ns.map V.int).length : Int) < 5 then ((ns.map V.int).length : Int) else 5) > 2 then (if ((ns.map V.int).length : Int) < 5 then ((ns.map V.int).length : Int) else 5) else 2)
      split <;> (try split) <;> omega
    · show (if (if ((ns.map V.int).length : Int) < 5 then ((ns.map V.int).length : Int) else 5) > 2 then (if ((ns.map V.int).length : Int) < 5 then ((ns.map V.int).length : Int) else 5) else 2) < 2 ^ 62
      split <;> (try split) <;> omega
    have top5 : (if (if ((ns.map V.int).length : Int) < 5 then ((ns.map V.int).length : Int) else 5) > 2 then (if ((ns.map V.int).length : Int) < 5 then ((ns.map V.int).length : Int) else 5) else 2) ≤ (5 : Int) := by
      split <;> (try split) <;> omega
    generalize (if (if ((ns.map V.int).length : Int) < 5 then ((ns.map V.int).length : Int) else 5) > 2 then (if ((ns.map V.int).length : Int) < 5 then ((ns.map V.int).length : Int) else 5) else 2) = top at top5
    refine for_range (lo := 0) (n := top.toNat) (fun i σ H' => Same H H' ∧ ∃ y1 y2 y3 y4 y5 y6 y7 y8 y9 y10 y11, σ = [some (.ref a), y1, y2, y3, y4, y5, y6, y7, y8, y9, y10, y11]) ⟨Same.refl H, _, _, _, _, _, _, _, _, _, _, _, rfl⟩ (fun t σ H' ht hP => ?_) (fun σ H' hP => ?_)
    · -- one start
      obtain ⟨sm, y1, y2, y3, y4, y5, y6, y7, y8, y9, y10, y11, rfl⟩ := hP
      refine ⟨_, rfl, _, rfl, a, ns, _, rfl, sm.seq hS, hlen, hb, by omega, by omega, fun H1 p s1 np w1 => ?_⟩
      have np0 : H p = none := Same.free sm np
      have sm1 := sm.trans s1
      refine ⟨12, rfl, by decide, by decide, for_range (lo := 0) (n := 12) (fun i σ H' => Same H H' ∧ WellAt H' p ∧ ∃ z3, σ = [some (.ref a), some (.int (0 + (t : Int))), some (.ref p), z3, y4, y5, y6, y7, y8, y9, y10, y11]) ⟨sm1, w1, _, rfl⟩ (fun j σ H2 hj hP => ?_) (fun σ H2 hP => ?_)⟩
      · obtain ⟨sm2, w2, z3, rfl⟩ := hP
        refine ⟨_, rfl, p, rfl, w2, fun H3 v d e3 w3 hd hk => ?_⟩
        refine ⟨v, d, rfl, hd.mono hid_same, hk, fun H4 s4 => ⟨_, rfl, iteF ?_⟩⟩
        exact ⟨(e3.same np0 sm2).trans s4, w3.same s4, _, rfl⟩
      · obtain ⟨sm2, w2, z3, rfl⟩ := hP
        -- some, texts
        refine ⟨(by show 10 ≤ sizeLine; decide), fun l nl => ?_⟩
        have sl := same_new (o := .lst SOME) nl
        have sml := sm2.trans sl
        have nl0 : H l = none := Same.free sm2 nl
        have wl := w2.same sl
        have pl : p ≠ l := by
          obtain ⟨_, _, e, _⟩ := w2
          exact ne_of_none e nl
        have seln : SOME ≠ [] := fun z => by cases z
        refine ⟨5, rfl, by decide, by decide, fun D nD => ?_⟩
        have pD : p ≠ D := by
          obtain ⟨_, _, e, _⟩ := wl
          exact ne_of_none e nD
        have lD : l ≠ D := ne_of_none upd_same nD
        have nD0 : H D = none := Same.free sml nD
        refine lc_range (lo := 0) (n := 5) (fun i H' => Same H H' ∧ WellAt H' p ∧ H' l = some (.lst SOME) ∧ ∃ vs, H' D = some (.lst vs) ∧ vs.length = i ∧ ∀ v ∈ vs, isStr v = true)
          ⟨sml.trans (same_new nD), wl.same (same_new nD), same_new nD _ _ upd_same, [], upd_same, rfl, fun _ z => by cases z⟩ (fun i H3 hi hP => ?_) (fun H3 hP => ?_)
        · obtain ⟨sm3, w3, h3l, vs, h3D, len, good⟩ := hP
          refine ⟨rfl, yes_go ?_⟩
          refine ⟨_, rfl, _, rfl, p, l, SOME, rfl, w3, SqL.of h3l, seln, (by show 10 ≤ 1000000; decide), fun H4 v e4 w4 hv => ?_⟩
          refine ⟨vs, e4 _ _ pD.symm h3D, small1000 (by omega), ?_, ?_, ?_, ?_⟩
          · exact fun b o e => by
              rw [upd_ne (ne_of_none e nD0)]
              exact e4.same np0 sm3 _ _ e
          · obtain ⟨dd, mm, e, r⟩ := w4
            exact ⟨dd, mm, by rw [upd_ne pD]; exact e, r⟩
          · rw [upd_ne lD]
            exact e4 _ _ pl.symm h3l
          · refine ⟨_, upd_same, by rw [List.length_append, len]; rfl, fun u hu => ?_⟩
            rcases List.mem_append.mp hu with hu | hu
            · exact good u hu
            · rw [List.mem_singleton.mp hu]
              exact some_str v hv
        · obtain ⟨sm3, w3, h3l, vs, h3D, len, good⟩ := hP
          -- numbers
          refine ⟨5, rfl, by decide, by decide, fun D2 nD2 => ?_⟩
          have pD2 : p ≠ D2 := by
            obtain ⟨_, _, e, _⟩ := w3
            exact ne_of_none e nD2
          have DD2 : D ≠ D2 := ne_of_none h3D nD2
          have nD20 : H D2 = none := Same.free sm3 nD2
          refine lc_range (lo := 0) (n := 5) (fun i H' => Same H H' ∧ WellAt H' p ∧ H' D = some (.lst vs) ∧ ∃ us, H' D2 = some (.lst us) ∧ us.length = i ∧ ∀ v ∈ us, isInt v = true)
            ⟨sm3.trans (same_new nD2), w3.same (same_new nD2), same_new nD2 _ _ h3D, [], upd_same, rfl, fun _ z => by cases z⟩ (fun i H4 hi hP => ?_) (fun H4 hP => ?_)
          · obtain ⟨sm4, w4, h4D, us, h4D2, len2, good2⟩ := hP
            refine ⟨rfl, yes_go ?_⟩
            have b10 : bits 10 ≤ 4 := bits_nn (by decide) (by decide)
            refine ⟨_, rfl, 10, 40, rfl, rfl, ⟨by decide, (by show (bits 10 : Int) * 40 ≤ 2 ^ 27; omega)⟩, (by show 6 ≤ sizeLine; decide), fun l2 nl2 => ?_⟩
            have s2 := same_new (o := .lst [.int 0, .int 1, .int 2, .int 9, .int 10, .int (10 ^ (40 : Int).toNat)]) nl2
            refine ⟨p, l2, _, rfl, w4.same s2, SqL.of upd_same, (fun z => by cases z), (by show 6 ≤ 1000000; decide), fun H5 v e5 w5 hv => ?_⟩
            have e5' := (ExB.of (p := p) s2).trans e5
            refine ⟨us, e5' _ _ pD2.symm h4D2, small1000 (by omega), ?_, ?_, ?_, ?_⟩
            · exact fun b o e => by
                rw [upd_ne (ne_of_none e nD20)]
                exact e5'.same np0 sm4 _ _ e
            · obtain ⟨dd, mm, e, r⟩ := w5
              exact ⟨dd, mm, by rw [upd_ne pD2]; exact e, r⟩
            · rw [upd_ne DD2]
              exact e5' _ _ pD.symm h4D
            · refine ⟨_, upd_same, by rw [List.length_append, len2]; rfl, fun u hu => ?_⟩
              rcases List.mem_append.mp hu with hu | hu
              · exact good2 u hu
              · rw [List.mem_singleton.mp hu]
                have h6 : ([.int 0, .int 1, .int 2, .int 9, .int 10, .int (10 ^ (40 : Int).toNat)] : List V).all isInt = true := by decide +kernel
                exact List.all_eq_true.mp h6 v hv
          · obtain ⟨sm4, w4, h4D, us, h4D2, len2, good2⟩ := hP
            -- the rows
            refine ⟨_, rfl, _, rfl, (by show 3 ≤ sizeLine; decide), fun lb nb => ⟨(by show 3 ≤ sizeLine; decide), fun lr nr => ?_⟩⟩
            have sb := same_new (o := .lst [.bl true, .bl false, .bl true]) nb
            have sr := same_new (o := .lst [.ref D, .ref D2, .ref lb]) nr
            have s5 := sb.trans sr
            have rows : ∀ r ∈ ([.ref D, .ref D2, .ref lb] : List V), ∃ x rs, r = .ref x ∧ (upd (upd H4 lb (.lst [.bl true, .bl false, .bl true])) lr (.lst [.ref D, .ref D2, .ref lb])) x = some (.lst rs) ∧ RowOk rs := by
              intro r hr
              rcases List.mem_cons.mp hr with rfl | hr
              · exact ⟨D, vs, rfl, s5 _ _ h4D, rowStr good⟩
              rcases List.mem_cons.mp hr with rfl | hr
              · exact ⟨D2, us, rfl, s5 _ _ h4D2, rowInt good2⟩
              · rw [List.mem_singleton.mp hr]
                refine ⟨lb, _, rfl, sr _ _ upd_same, rowBl fun v hv => ?_⟩
                rcases List.mem_cons.mp hv with rfl | hv
                · exact ⟨_, rfl⟩
                rcases List.mem_cons.mp hv with rfl | hv
                · exact ⟨_, rfl⟩
                · rw [List.mem_singleton.mp hv]
                  exact ⟨_, rfl⟩
            have lrS : SqL K (upd (upd H4 lb (.lst [.bl true, .bl false, .bl true])) lr (.lst [.ref D, .ref D2, .ref lb])) lr [.ref D, .ref D2, .ref lb] := SqL.of upd_same
            have base5 := sm4.trans s5
            generalize upd (upd H4 lb (.lst [.bl true, .bl false, .bl true])) lr (.lst [.ref D, .ref D2, .ref lb]) = H5 at rows lrS base5 ⊢
            refine ⟨lr, rfl, ⟨_, lrS⟩, for_list (K := K) (a := lr) (xs := [.ref D, .ref D2, .ref lb]) (fun i σ H' => Same H5 H' ∧ ∃ z7 z8 z9, σ = [some (.ref a), some (.int (0 + (t : Int))), some (.ref p), z3, some (.ref l), some (.ref D), some (.ref D2), z7, z8, z9, y10, y11])
              ⟨Same.refl _, _, _, _, rfl⟩ (fun i σ H' _ hP => hP.1.seq lrS) (fun i r σ H6 hr hP => ?_) (fun σ H6 hP => ?_)⟩
            · obtain ⟨s6, z7, z8, z9, rfl⟩ := hP
              obtain ⟨x, rs, rfl, hx, rok⟩ := rows r (List.mem_of_getElem? hr)
              have xS : SqL K H5 x rs := SqL.of hx
              refine ⟨_, rfl, x, rfl, ⟨_, s6.seq xS⟩, for_list (K := K) (a := x) (xs := rs) (fun i σ H' => Same H5 H' ∧ ∃ z8 z9, σ = [some (.ref a), some (.int (0 + (t : Int))), some (.ref p), z3, some (.ref l), some (.ref D), some (.ref D2), some (.ref x), z8, z9, y10, y11])
                ⟨s6, _, _, rfl⟩ (fun i σ H' _ hP => hP.1.seq xS) (fun i v σ H7 hv hP => ?_) (fun σ H7 hP => ?_)⟩
              · obtain ⟨s7, z8, z9, rfl⟩ := hP
                have hv' := List.mem_of_getElem? hv
                refine ⟨_, rfl, x, rfl, ⟨_, s7.seq xS⟩, for_list (K := K) (a := x) (xs := rs) (fun i σ H' => Same H5 H' ∧ ∃ z9, σ = [some (.ref a), some (.int (0 + (t : Int))), some (.ref p), z3, some (.ref l), some (.ref D), some (.ref D2), some (.ref x), some v, z9, y10, y11])
                  ⟨s7, _, rfl⟩ (fun i σ H' _ hP => hP.1.seq xS) (fun i u σ H8 hu hP => ?_) (fun σ H8 hP => ?_)⟩
                · obtain ⟨s8, z9, rfl⟩ := hP
                  have hu' := List.mem_of_getElem? hu
                  refine ⟨_, rfl, v, rfl, rok.1 v hv', fun H9 k1 s9 kv1 => ?_⟩
                  refine ⟨_, rfl, u, rfl, rok.1 u hu', fun H10 k2 s10 kv2 => ?_⟩
                  refine ⟨v, u, KeyV.mono kv1 s10, kv2, rok.2 v hv' u hu', ?_⟩
                  refine ⟨_, rfl, _, rfl, v, u, rfl, rok.1 v hv', rok.1 u hu', rok.2 v hv' u hu', rfl, _, rfl, iteNS rfl ?_⟩
                  exact ⟨s8.trans (s9.trans s10), _, rfl⟩
                · obtain ⟨s8, z9, rfl⟩ := hP
                  exact ⟨s8, _, _, rfl⟩
              · obtain ⟨s7, z8, z9, rfl⟩ := hP
                exact ⟨s7, _, _, _, rfl⟩
            · obtain ⟨s6, z7, z8, z9, rfl⟩ := hP
              exact ⟨base5.trans s6, _, _, _, _, _, _, _, _, _, _, _, rfl⟩
    · -- the letters
      obtain ⟨sm, y1, y2, y3, y4, y5, y6, y7, y8, y9, y10, y11, rfl⟩ := hP
      clear sm
      refine ⟨LET, rfl, for_it walk_str (fun i σ H' => ∃ y10, σ = [some (.ref a), y1, y2, y3, y4, y5, y6, y7, y8, y9, y10, y11]) ⟨_, rfl⟩ (fun _ _ _ _ _ => trivial) (fun i x σ H1 H2 hi hP hy => ?_) (fun σ H1 hP => ?_)⟩
      · obtain ⟨z, rfl⟩ := hP
        obtain ⟨rfl, c, hc, rfl⟩ := hy
        have hm : c ∈ LET.cps.toList := by
          have g : LET.cps.toList[i]? = some c := by
            rw [Array.getElem?_toList]
            exact hc
          exact List.mem_of_getElem? g
        obtain ⟨f1, f2, f3⟩ := let_facts c hm
        refine ⟨_, rfl, _, _, rfl, .str _, okd_str (by show 1 ≤ 1000; decide), fun H3 s3 => ?_⟩
        rw [f1]
        refine ⟨_, rfl, iteF ⟨_, rfl, _, _, rfl, rfl, (by show 1 + 1 ≤ sizeLine; decide), _, _, rfl, .str _, okd_str (by show 1 + 1 ≤ 1000; decide), fun H4 s4 => ?_⟩⟩
        rw [f2]
        refine ⟨_, rfl, iteF ⟨_, rfl, _, _, rfl, rfl, (by show 2 + 1 ≤ sizeLine; decide), _, _, rfl, .str _, okd_str (by show 2 + 1 ≤ 1000; decide), fun H5 s5 => ?_⟩⟩
        rw [f3]
        exact ⟨_, rfl, iteF ⟨_, rfl⟩⟩
      · obtain ⟨z, rfl⟩ := hP
        -- the other signs
        refine ⟨SIGNS, rfl, for_it walk_str (fun i σ H' => ∃ y10, σ = [some (.ref a), y1, y2, y3, y4, y5, y6, y7, y8, y9, y10, y11]) ⟨_, rfl⟩ (fun _ _ _ _ _ => trivial) (fun i x σ H1 H2 hi hP hy => ?_) (fun σ H1 hP => ?_)⟩
        · obtain ⟨z, rfl⟩ := hP
          obtain ⟨rfl, c, hc, rfl⟩ := hy
          have hm : c ∈ SIGNS.cps.toList := by
            have g : SIGNS.cps.toList[i]? = some c := by
              rw [Array.getElem?_toList]
              exact hc
            exact List.mem_of_getElem? g
          obtain ⟨f1, f2, f3, f4, f5, f6, f7⟩ := sign_facts c hm
          refine ⟨_, rfl, _, _, rfl, .str _, okd_str (by show 1 ≤ 1000; decide), fun H3 s3 => ?_⟩
          rw [f1]
          refine ⟨_, rfl, iteF ⟨_, rfl, _, _, rfl, rfl, (by show 1 + 1 ≤ sizeLine; decide), _, _, rfl, .str _, okd_str (by show 1 + 1 ≤ 1000; decide), fun H4 s4 => ?_⟩⟩
          rw [f2]
          refine ⟨_, rfl, iteF ⟨_, rfl, _, _, rfl, rfl, (by show 1 + 1 ≤ sizeLine; decide), _, _, rfl, .str _, okd_str (by show 1 + 1 ≤ 1000; decide), fun H5 s5 => ?_⟩⟩
          rw [f3]
          refine ⟨_, rfl, iteF ⟨_, rfl, _, _, rfl, rfl, (by show 1 + 1 ≤ sizeLine; decide), _, _, rfl, rfl, (by show (1 + 1) + 1 ≤ sizeLine; decide), _, _, rfl, .str _, okd_str (by show (1 + 1) + 1 ≤ 1000; decide), fun H6 s6 => ?_⟩⟩
          rw [f4]
          refine ⟨_, rfl, iteF ?_⟩
          refine ⟨_, rfl, _, _, rfl, rfl, (by show 7 + 1 ≤ sizeLine; decide), _, _, rfl, .str _, okd_str (by show 7 + 1 ≤ 1000; decide), fun H7 s7 => ?_⟩
          rw [f5]
          refine ⟨_, rfl, iteF ⟨_, rfl, _, _, rfl, rfl, (by show 11 + 1 ≤ sizeLine; decide), _, _, rfl, .str _, okd_str (by show 11 + 1 ≤ 1000; decide), fun H8 s8 => ?_⟩⟩
          rw [f6]
          refine ⟨_, rfl, iteF ⟨_, rfl, _, _, rfl, rfl, (by show 5 + 1 ≤ sizeLine; decide), _, _, rfl, rfl, (by show (5 + 1) + 1 ≤ sizeLine; decide), _, _, rfl, .str _, okd_str (by show (5 + 1) + 1 ≤ 1000; decide), fun H9 s9 => ?_⟩⟩
          rw [f7]
          exact ⟨_, rfl, iteF ⟨_, rfl⟩⟩
        · obtain ⟨z, rfl⟩ := hP
          -- the sizes
          refine ⟨15, rfl, by decide, by decide, for_range (lo := 0) (n := 15) (fun i σ H' => ∃ y11, σ = [some (.ref a), y1, y2, y3, y4, y5, y6, y7, y8, y9, z, y11]) ⟨_, rfl⟩ (fun i σ H1 hi hP => ?_) (fun σ H1 hP => ?_)⟩
          · obtain ⟨z2, rfl⟩ := hP
            obtain ⟨f1, f2, f3⟩ := size_facts i hi
            have ei : V.int (0 + (i : Int)) = V.int ((i : Nat) : Int) := by rw [Int.zero_add]
            refine ⟨_, rfl, "z", i, rfl, ei, (by show 1 * i ≤ 100000; omega), by omega, _, _, rfl, .str _, okd_str f3, fun H3 s3 => ?_⟩
            rw [f1]
            refine ⟨_, rfl, _, _, rfl, rfl, _, rfl, ite2 (fun e => ?_) (fun e => ?_)⟩
            · have e1 := of_decide_eq_true e
              refine ⟨_, _, rfl, rfl, rfl, _, rfl, iteNS (by rw [Int.zero_add, decide_eq_true (by omega : (1 : Int) ≤ (i : Nat)), Bool.true_and]) ?_⟩
              refine ⟨_, rfl, "z", i, rfl, ei, (by show 1 * i ≤ 100000; omega), by omega, _, _, rfl, .str _, okd_str f3, fun H4 s4 => ?_⟩
              rw [f2]
              refine ⟨_, rfl, _, _, rfl, rfl, rfl, _, rfl, iteNS (by rw [Int.zero_add]) ⟨_, rfl⟩⟩
            · have e1 : ¬ (1 : Int) ≤ 0 + (i : Int) := fun z => e (decide_eq_true z)
              refine ⟨rfl, _, rfl, iteNS (by rw [decide_eq_false (by omega : ¬ (1 : Int) ≤ (i : Nat)), Bool.false_and]) ?_⟩
              refine ⟨_, rfl, "z", i, rfl, ei, (by show 1 * i ≤ 100000; omega), by omega, _, _, rfl, .str _, okd_str f3, fun H4 s4 => ?_⟩
              rw [f2]
              refine ⟨_, rfl, _, _, rfl, rfl, rfl, _, rfl, iteNS (by rw [Int.zero_add]) ⟨_, rfl⟩⟩
          · obtain ⟨z2, rfl⟩ := hP
            have b10 : bits 10 ≤ 4 := bits_nn (by decide) (by decide)
            refine ⟨10, 59, rfl, rfl, ⟨by decide, (by show (bits 10 : Int) * 59 ≤ 2 ^ 27; omega)⟩, _, _, rfl, .int _, (fun x e => by cases e), fun H2 s2 => ?_⟩
            rw [show numD (.int (10 ^ (59 : Int).toNat)) = true by decide +kernel]
            refine ⟨_, _, rfl, rfl, _, rfl, iteT ⟨_, _, rfl, .int _, (fun x e => by cases e), fun H3 s3 => ?_⟩⟩
            rw [show numD (.int 0) = true by decide +kernel]
            refine ⟨_, _, rfl, rfl, _, rfl, iteT ⟨_, _, rfl, rfl, _, _, rfl, .int _, (fun x e => by cases e), fun H4 s4 => ?_⟩⟩
            rw [show numD (.int (0 - 1)) = false by decide +kernel]
            exact ⟨_, _, rfl, rfl, q _⟩
end
end K1
set_option maxHeartbeats 8000000
namespace K1
open PySem PySem.Spec PyProof.Rows L2 Zk
theorem all_mk {l : PySem.W.OpenLaw} {w : World} {K : PySem.W.Frag} {h : Heap} {mg : Str → Option Value} {fa : Addr} (X : K.In h) (G : h.Ns mainGlobals mg) (hfa : mg "law" = some (.ref fa))
    {f0 f1 f2 f3 f4 f5 f6 f7 f8 f9 f10 f11 f12 f13 f14 : Addr} {od0 an0 od1 an1 od2 an2 od3 an3 od4 an4 od5 an5 od6 an6 od7 an7 od8 an8 od9 an9 od10 an10 od11 an11 od12 an12 od13 an13 od14 an14 : Option Addr} {sl0 sl1 sl2 sl3 sl4 sl5 sl6 sl7 sl8 sl9 sl10 sl11 sl12 sl13 sl14 : Array (Option Value)}
    {oc0 kV0 dc0 pm0 cd0 ct0 oc1 kV1 dc1 pm1 cd1 ct1 oc2 kV2 dc2 pm2 cd2 ct2 oc3 kV3 dc3 pm3 cd3 ct3 oc4 kV4 dc4 pm4 cd4 ct4 oc5 kV5 dc5 pm5 cd5 ct5 oc6 kV6 dc6 pm6 cd6 ct6 oc7 kV7 dc7 pm7 cd7 ct7 oc8 kV8 dc8 pm8 cd8 ct8 oc9 kV9 dc9 pm9 cd9 ct9 oc10 kV10 dc10 pm10 cd10 ct10 oc11 kV11 dc11 pm11 cd11 ct11 oc12 kV12 dc12 pm12 cd12 ct12 oc13 kV13 dc13 pm13 cd13 ct13 oc14 kV14 dc14 pm14 cd14 ct14 : Value}
    {tk0 tk1 tk2 : Tok}
    (a0 : PySem.W.nsIn K mainGlobals "is_name" = some (some (.ref f0)))
    (l0 : K.lookup f0 = some ⟨oc0, od0, .func (PySem.W.fnOf "is_name" "is_name" (defArgs s_is_name) (defBody s_is_name) (defScope s_is_name) .none kV0 dc0 pm0 an0 cd0 ct0), sl0⟩)
    (c0 : PySem.W.codeIn K cd0 "is_name" = true) (k0 : PySem.W.keepIn K (.ref f0) = true)
    (a1 : PySem.W.nsIn K mainGlobals "is_text" = some (some (.ref f1)))
    (l1 : K.lookup f1 = some ⟨oc1, od1, .func (PySem.W.fnOf "is_text" "is_text" (defArgs s_is_text) (defBody s_is_text) (defScope s_is_text) .none kV1 dc1 pm1 an1 cd1 ct1), sl1⟩)
    (c1 : PySem.W.codeIn K cd1 "is_text" = true) (k1 : PySem.W.keepIn K (.ref f1) = true)
    (a2 : PySem.W.nsIn K mainGlobals "is_number" = some (some (.ref f2)))
    (l2 : K.lookup f2 = some ⟨oc2, od2, .func (PySem.W.fnOf "is_number" "is_number" (defArgs s_is_number) (defBody s_is_number) (defScope s_is_number) .none kV2 dc2 pm2 an2 cd2 ct2), sl2⟩)
    (c2 : PySem.W.codeIn K cd2 "is_number" = true) (k2 : PySem.W.keepIn K (.ref f2) = true)
    (a3 : PySem.W.nsIn K mainGlobals "is_flag" = some (some (.ref f3)))
    (l3 : K.lookup f3 = some ⟨oc3, od3, .func (PySem.W.fnOf "is_flag" "is_flag" (defArgs s_is_flag) (defBody s_is_flag) (defScope s_is_flag) .none kV3 dc3 pm3 an3 cd3 ct3), sl3⟩)
    (c3 : PySem.W.codeIn K cd3 "is_flag" = true) (k3 : PySem.W.keepIn K (.ref f3) = true)
    (a4 : PySem.W.nsIn K mainGlobals "value_key" = some (some (.ref f4)))
    (l4 : K.lookup f4 = some ⟨oc4, od4, .func (PySem.W.fnOf "value_key" "value_key" (defArgs s_value_key) (defBody s_value_key) (defScope s_value_key) .none kV4 dc4 pm4 an4 cd4 ct4), sl4⟩)
    (c4 : PySem.W.codeIn K cd4 "value_key" = true) (k4 : PySem.W.keepIn K (.ref f4) = true)
    (a5 : PySem.W.nsIn K mainGlobals "is_letter_row" = some (some (.ref f5)))
    (l5 : K.lookup f5 = some ⟨oc5, od5, .func (PySem.W.fnOf "is_letter_row" "is_letter_row" (defArgs s_is_letter_row) (defBody s_is_letter_row) (defScope s_is_letter_row) .none kV5 dc5 pm5 an5 cd5 ct5), sl5⟩)
    (c5 : PySem.W.codeIn K cd5 "is_letter_row" = true) (k5 : PySem.W.keepIn K (.ref f5) = true)
    (a6 : PySem.W.nsIn K mainGlobals "_law_well" = some (some (.ref f6)))
    (l6 : K.lookup f6 = some ⟨oc6, od6, .func (PySem.W.fnOf "_law_well" "_law_well" (defArgs s_law_well) (defBody s_law_well) (defScope s_law_well) .none kV6 dc6 pm6 an6 cd6 ct6), sl6⟩)
    (c6 : PySem.W.codeIn K cd6 "_law_well" = true) (k6 : PySem.W.keepIn K (.ref f6) = true)
    (a7 : PySem.W.nsIn K mainGlobals "_law_draw" = some (some (.ref f7)))
    (l7 : K.lookup f7 = some ⟨oc7, od7, .func (PySem.W.fnOf "_law_draw" "_law_draw" (defArgs s_law_draw) (defBody s_law_draw) (defScope s_law_draw) .none kV7 dc7 pm7 an7 cd7 ct7), sl7⟩)
    (c7 : PySem.W.codeIn K cd7 "_law_draw" = true) (k7 : PySem.W.keepIn K (.ref f7) = true)
    (a8 : PySem.W.nsIn K mainGlobals "_law_choose" = some (some (.ref f8)))
    (l8 : K.lookup f8 = some ⟨oc8, od8, .func (PySem.W.fnOf "_law_choose" "_law_choose" (defArgs s_law_choose) (defBody s_law_choose) (defScope s_law_choose) .none kV8 dc8 pm8 an8 cd8 ct8), sl8⟩)
    (c8 : PySem.W.codeIn K cd8 "_law_choose" = true) (k8 : PySem.W.keepIn K (.ref f8) = true)
    (a9 : PySem.W.nsIn K mainGlobals "_law_letters" = some (some (.ref f9)))
    (l9 : K.lookup f9 = some ⟨oc9, od9, .func (PySem.W.fnOf "_law_letters" "_law_letters" (defArgs s_law_letters) (defBody s_law_letters) (defScope s_law_letters) .none kV9 dc9 pm9 an9 cd9 ct9), sl9⟩)
    (c9 : PySem.W.codeIn K cd9 "_law_letters" = true) (k9 : PySem.W.keepIn K (.ref f9) = true)
    (a10 : PySem.W.nsIn K mainGlobals "_law_due" = some (some (.ref f10)))
    (l10 : K.lookup f10 = some ⟨oc10, od10, .func (PySem.W.fnOf "_law_due" "_law_due" (defArgs s_law_due) (defBody s_law_due) (defScope s_law_due) .none kV10 dc10 pm10 an10 cd10 ct10), sl10⟩)
    (c10 : PySem.W.codeIn K cd10 "_law_due" = true) (k10 : PySem.W.keepIn K (.ref f10) = true)
    (a11 : PySem.W.nsIn K mainGlobals "_law_any" = some (some (.ref f11)))
    (l11 : K.lookup f11 = some ⟨oc11, od11, .func (PySem.W.fnOf "_law_any" "_law_any" (defArgs s_law_any) (defBody s_law_any) (defScope s_law_any) .none kV11 dc11 pm11 an11 cd11 ct11), sl11⟩)
    (c11 : PySem.W.codeIn K cd11 "_law_any" = true) (k11 : PySem.W.keepIn K (.ref f11) = true)
    (a12 : PySem.W.nsIn K mainGlobals "_law_right" = some (some (.ref f12)))
    (l12 : K.lookup f12 = some ⟨oc12, od12, .func (PySem.W.fnOf "_law_right" "_law_right" (defArgs s_law_right) (defBody s_law_right) (defScope s_law_right) .none kV12 dc12 pm12 an12 cd12 ct12), sl12⟩)
    (c12 : PySem.W.codeIn K cd12 "_law_right" = true) (k12 : PySem.W.keepIn K (.ref f12) = true)
    (a13 : PySem.W.nsIn K mainGlobals "_law_before" = some (some (.ref f13)))
    (l13 : K.lookup f13 = some ⟨oc13, od13, .func (PySem.W.fnOf "_law_before" "_law_before" (defArgs s_law_before) (defBody s_law_before) (defScope s_law_before) .none kV13 dc13 pm13 an13 cd13 ct13), sl13⟩)
    (c13 : PySem.W.codeIn K cd13 "_law_before" = true) (k13 : PySem.W.keepIn K (.ref f13) = true)
    (a14 : PySem.W.nsIn K mainGlobals "law" = some (some (.ref f14)))
    (l14 : K.lookup f14 = some ⟨oc14, od14, .func (PySem.W.fnOf "law" "law" (defArgs s_law) (defBody s_law) (defScope s_law) .none kV14 dc14 pm14 an14 cd14 ct14), sl14⟩)
    (c14 : PySem.W.codeIn K cd14 "law" = true) (k14 : PySem.W.keepIn K (.ref f14) = true)
    (vc0 : PySem.W.nsIn K mainGlobals "LETTERS" = some (some (.str LET tk0)))
    (vc1 : PySem.W.nsIn K mainGlobals "LONGEST_NAME" = some (some (.int 8 tk1)))
    (vc2 : PySem.W.nsIn K mainGlobals "LONGEST_TEXT" = some (some (.int 12 tk2)))
    (z0 : PySem.W.nsIn K mainGlobals "len" = some none)
    (z1 : PySem.W.nsIn K mainGlobals "isinstance" = some none)
    (z2 : PySem.W.nsIn K mainGlobals "str" = some none)
    (z3 : PySem.W.nsIn K mainGlobals "int" = some none)
    (z4 : PySem.W.nsIn K mainGlobals "bool" = some none)
    (z5 : PySem.W.nsIn K mainGlobals "all" = some none)
    (z6 : PySem.W.nsIn K mainGlobals "repr" = some none)
    (z7 : PySem.W.nsIn K mainGlobals "range" = some none)
    (z8 : PySem.W.nsIn K mainGlobals "max" = some none)
    (z9 : PySem.W.nsIn K mainGlobals "min" = some none)
    : ∃ fd : FuncData, (∀ (s : Shared) (v : Value), BindsTo s fd ⟨[v], []⟩ [("script", v)]) ∧ ∀ b : Heap, K.In b → b.Ns mainGlobals mg → GOk l.prog w K mg b CX0 4 fa fd ["script"] (spLaw K) := by
  have e := hfa.symm.trans (PySem.W.mg_of X G a14)
  cases e
  have T : Txt mg := ⟨PySem.W.mg_none_of X G z0, PySem.W.mg_none_of X G z1, PySem.W.mg_none_of X G z2, PySem.W.mg_none_of X G z3, PySem.W.mg_none_of X G z4, PySem.W.mg_none_of X G z5, PySem.W.mg_none_of X G z6, PySem.W.mg_none_of X G z7, PySem.W.mg_none_of X G z8, PySem.W.mg_none_of X G z9, ⟨_, PySem.W.mg_of X G vc0, ⟨_, rfl⟩⟩, ⟨_, PySem.W.mg_of X G vc1, ⟨_, rfl⟩⟩, ⟨_, PySem.W.mg_of X G vc2, ⟨_, rfl⟩⟩⟩
  have F0 := fun_mk (st := s_is_name) l0 c0 k0
  have p_is_name : Pl K mg "is_name" s_is_name ["value"] f0 _ := ⟨F0, PySem.W.mg_of X G a0, F0.binds (ps := ["value"]) fun _ _ _ _ _ _ us hl => match us, hl with | [_], _ => rfl⟩
  have F1 := fun_mk (st := s_is_text) l1 c1 k1
  have p_is_text : Pl K mg "is_text" s_is_text ["value"] f1 _ := ⟨F1, PySem.W.mg_of X G a1, F1.binds (ps := ["value"]) fun _ _ _ _ _ _ us hl => match us, hl with | [_], _ => rfl⟩
  have F2 := fun_mk (st := s_is_number) l2 c2 k2
  have p_is_number : Pl K mg "is_number" s_is_number ["value"] f2 _ := ⟨F2, PySem.W.mg_of X G a2, F2.binds (ps := ["value"]) fun _ _ _ _ _ _ us hl => match us, hl with | [_], _ => rfl⟩
  have F3 := fun_mk (st := s_is_flag) l3 c3 k3
  have p_is_flag : Pl K mg "is_flag" s_is_flag ["value"] f3 _ := ⟨F3, PySem.W.mg_of X G a3, F3.binds (ps := ["value"]) fun _ _ _ _ _ _ us hl => match us, hl with | [_], _ => rfl⟩
  have F4 := fun_mk (st := s_value_key) l4 c4 k4
  have p_value_key : Pl K mg "value_key" s_value_key ["value"] f4 _ := ⟨F4, PySem.W.mg_of X G a4, F4.binds (ps := ["value"]) fun _ _ _ _ _ _ us hl => match us, hl with | [_], _ => rfl⟩
  have F5 := fun_mk (st := s_is_letter_row) l5 c5 k5
  have p_is_letter_row : Pl K mg "is_letter_row" s_is_letter_row ["value"] f5 _ := ⟨F5, PySem.W.mg_of X G a5, F5.binds (ps := ["value"]) fun _ _ _ _ _ _ us hl => match us, hl with | [_], _ => rfl⟩
  have F6 := fun_mk (st := s_law_well) l6 c6 k6
  have p_law_well : Pl K mg "_law_well" s_law_well ["script", "start"] f6 _ := ⟨F6, PySem.W.mg_of X G a6, F6.binds (ps := ["script", "start"]) fun _ _ _ _ _ _ us hl => match us, hl with | [_, _], _ => rfl⟩
  have F7 := fun_mk (st := s_law_draw) l7 c7 k7
  have p_law_draw : Pl K mg "_law_draw" s_law_draw ["well", "bound"] f7 _ := ⟨F7, PySem.W.mg_of X G a7, F7.binds (ps := ["well", "bound"]) fun _ _ _ _ _ _ us hl => match us, hl with | [_, _], _ => rfl⟩
  have F8 := fun_mk (st := s_law_choose) l8 c8 k8
  have p_law_choose : Pl K mg "_law_choose" s_law_choose ["well", "things"] f8 _ := ⟨F8, PySem.W.mg_of X G a8, F8.binds (ps := ["well", "things"]) fun _ _ _ _ _ _ us hl => match us, hl with | [_, _], _ => rfl⟩
  have F9 := fun_mk (st := s_law_letters) l9 c9 k9
  have p_law_letters : Pl K mg "_law_letters" s_law_letters ["thing"] f9 _ := ⟨F9, PySem.W.mg_of X G a9, F9.binds (ps := ["thing"]) fun _ _ _ _ _ _ us hl => match us, hl with | [_], _ => rfl⟩
  have F10 := fun_mk (st := s_law_due) l10 c10 k10
  have p_law_due : Pl K mg "_law_due" s_law_due ["thing"] f10 _ := ⟨F10, PySem.W.mg_of X G a10, F10.binds (ps := ["thing"]) fun _ _ _ _ _ _ us hl => match us, hl with | [_], _ => rfl⟩
  have F11 := fun_mk (st := s_law_any) l11 c11 k11
  have p_law_any : Pl K mg "_law_any" s_law_any ["well"] f11 _ := ⟨F11, PySem.W.mg_of X G a11, F11.binds (ps := ["well"]) fun _ _ _ _ _ _ us hl => match us, hl with | [_], _ => rfl⟩
  have F12 := fun_mk (st := s_law_right) l12 c12 k12
  have p_law_right : Pl K mg "_law_right" s_law_right ["thing"] f12 _ := ⟨F12, PySem.W.mg_of X G a12, F12.binds (ps := ["thing"]) fun _ _ _ _ _ _ us hl => match us, hl with | [_], _ => rfl⟩
  have F13 := fun_mk (st := s_law_before) l13 c13 k13
  have p_law_before : Pl K mg "_law_before" s_law_before ["one", "other"] f13 _ := ⟨F13, PySem.W.mg_of X G a13, F13.binds (ps := ["one", "other"]) fun _ _ _ _ _ _ us hl => match us, hl with | [_, _], _ => rfl⟩
  refine ⟨PySem.W.fnOf "law" "law" (defArgs s_law) (defBody s_law) (defScope s_law) .none kV14 dc14 pm14 an14 cd14 ct14, fun s v => .of_eq rfl, fun b _ _ => ?_⟩
  have D_row := ok_is_letter_row (P := l.prog) (w := w) (base := b) T p_is_letter_row
  have D_name := ok_is_name T p_is_name D_row
  have D_text := ok_is_text T p_is_text D_row
  have D_num := ok_is_number (P := l.prog) (w := w) (base := b) T p_is_number
  have D_flag := ok_is_flag (P := l.prog) (w := w) (base := b) T p_is_flag
  have D_key := ok_value_key (P := l.prog) (w := w) (base := b) T p_value_key
  have D_well := ok_law_well (P := l.prog) (w := w) (base := b) T p_law_well
  have D_draw := ok_law_draw (P := l.prog) (w := w) (base := b) T p_law_draw
  have D_choose := ok_law_choose T p_law_choose D_draw
  have D_letters := ok_law_letters (P := l.prog) (w := w) (base := b) T p_law_letters
  have D_due := ok_law_due T p_law_due D_letters
  have D_any := ok_law_any T p_law_any D_choose
  have D_right := ok_law_right T p_law_right D_name D_text D_num D_flag D_due
  have D_before := ok_law_before (P := l.prog) (w := w) (base := b) T p_law_before
  exact ok_law T (fun_mk (st := s_law) l14 c14 k14) D_name D_text D_num D_key D_well D_choose D_any D_right D_before
end K1
open PySem PySem.W PyProof.Rows
set_option maxRecDepth 100000 in
set_option maxHeartbeats 0 in
theorem PySem.Challenge.cw_maskwrites_k01_names_and_values_holds : PySem.Challenge.rw_maskwrites_k01_names_and_values.Holds := by
  w_on; o_law; k_head; (case hw => w_witness2)
  k_fill
  refine Zk.walk_go (l := PySem.Challenge.rw_maskwrites_k01_names_and_values) (n := 63) (k := 4) (x := "script") (sp := fun w => K1.spLaw _) rfl (by decide) rfl ⟨rfl, by decide, by decide⟩ (fun w h Y => PySem.W.kIn_of Y) ?F (fun _ _ a ns hl hb _ hS => ⟨a, ns, rfl, hS, hl, hb, fun _ => rfl⟩)
  case F =>
    intro w mg fa h KX G hmg
    refine' K1.all_mk KX G hmg ?a0 ?l0 ?c0 ?k0 ?a1 ?l1 ?c1 ?k1 ?a2 ?l2 ?c2 ?k2 ?a3 ?l3 ?c3 ?k3 ?a4 ?l4 ?c4 ?k4 ?a5 ?l5 ?c5 ?k5 ?a6 ?l6 ?c6 ?k6 ?a7 ?l7 ?c7 ?k7 ?a8 ?l8 ?c8 ?k8 ?a9 ?l9 ?c9 ?k9 ?a10 ?l10 ?c10 ?k10 ?a11 ?l11 ?c11 ?k11 ?a12 ?l12 ?c12 ?k12 ?a13 ?l13 ?c13 ?k13 ?a14 ?l14 ?c14 ?k14 ?vc0 ?vc1 ?vc2 ?z0 ?z1 ?z2 ?z3 ?z4 ?z5 ?z6 ?z7 ?z8 ?z9
    (case a0 => k_is)
    (case l0 => k_is)
    (case c0 => k_is)
    (case k0 => k_is)
    (case a1 => k_is)
    (case l1 => k_is)
    (case c1 => k_is)
    (case k1 => k_is)
    (case a2 => k_is)
    (case l2 => k_is)
    (case c2 => k_is)
    (case k2 => k_is)
    (case a3 => k_is)
    (case l3 => k_is)
    (case c3 => k_is)
    (case k3 => k_is)
    (case a4 => k_is)
    (case l4 => k_is)
    (case c4 => k_is)
    (case k4 => k_is)
    (case a5 => k_is)
    (case l5 => k_is)
    (case c5 => k_is)
    (case k5 => k_is)
    (case a6 => k_is)
    (case l6 => k_is)
    (case c6 => k_is)
    (case k6 => k_is)
    (case a7 => k_is)
    (case l7 => k_is)
    (case c7 => k_is)
    (case k7 => k_is)
    (case a8 => k_is)
    (case l8 => k_is)
    (case c8 => k_is)
    (case k8 => k_is)
    (case a9 => k_is)
    (case l9 => k_is)
    (case c9 => k_is)
    (case k9 => k_is)
    (case a10 => k_is)
    (case l10 => k_is)
    (case c10 => k_is)
    (case k10 => k_is)
    (case a11 => k_is)
    (case l11 => k_is)
    (case c11 => k_is)
    (case k11 => k_is)
    (case a12 => k_is)
    (case l12 => k_is)
    (case c12 => k_is)
    (case k12 => k_is)
    (case a13 => k_is)
    (case l13 => k_is)
    (case c13 => k_is)
    (case k13 => k_is)
    (case a14 => k_is)
    (case l14 => k_is)
    (case c14 => k_is)
    (case k14 => k_is)
    (case vc0 => k_is)
    (case vc1 => k_is)
    (case vc2 => k_is)
    (case z0 => k_is)
    (case z1 => k_is)
    (case z2 => k_is)
    (case z3 => k_is)
    (case z4 => k_is)
    (case z5 => k_is)
    (case z6 => k_is)
    (case z7 => k_is)
    (case z8 => k_is)
    (case z9 => k_is)
