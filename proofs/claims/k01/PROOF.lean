import PyProof.Rows.All
import Wide.All
import OpenK.AllK
import Wide.FinOn
import HandS.ForMost
import HandS.Exc
import HandS.ExcInit
import PyProof.ReprRoads
import KE.KIsAll
import KE.KTryMore
import HandS.ExcIs
import HandS.ExcOwn
import HandS.ExcValue
import HandS.WideBits
import HandS.Style
import HandS.IsInst
import HandS.Walk
import HandS.FStrTup
import PySem.Challenge.RW_backwalks_k01_errors_each_of_its_own
set_option Elab.async false
set_option linter.all false
set_option maxRecDepth 100000
set_option maxHeartbeats 8000000
/-! Part 0. Defs that are run where no printing is under way (the guards are known to be none). -/
namespace Bw
open PySem PySem.Spec PyProof.Rows L2

/-- as a def's promise, for callers whose guards are none -/
structure FnG (P : Program) (w : World) (K : PySem.W.Frag) (mg : Str → Option Value) (base : Heap)
    (k : Nat) (f : Addr) (fd : FuncData) (ps : List Str) (sp : Sp) : Prop where
  len : ∀ vs H Q E, sp vs H Q E → vs.length = ps.length
  run : ∀ (A : Around) (outer : List Env) (s : Shared) (H : Hp) (args : Args) (us : List Value) (vs : List V)
    (Q : VK) (E : XK), A.guards = some [] → Room k A → Env0 P w K mg base A outer s H →
    BindsTo s fd args (ps.zip us) → Vals vs us → sp vs H Q E →
    codeAny (model P w) A (.call (.ref f) args) (CR CX0 outer P w H s Q E) s

theorem FnG.of {P : Program} {w : World} {K : PySem.W.Frag} {mg : Str → Option Value} {base : Heap}
    {k : Nat} {f : Addr} {fd : FuncData} {ps : List Str} {sp : Sp}
    (F : FnOk P w K mg base CX0 k f fd ps sp) : FnG P w K mg base k f fd ps sp :=
  ⟨F.len, fun A outer s H args us vs Q E _ hr he hb hv hs => F.run A outer s H args us vs Q E hr he hb hv hs⟩

section
variable {X : Cx} {k : Nat} {f : Addr} {fd : FuncData} {ps : List Str} {sp : Sp} {x : Str} {p pos : Pos}
  {e : Expr} {es : List Expr} {t : TA}

/-- what a guarded callee leaves -/
theorem runG {pins : List (Addr × Obj)} {σ : L2.St} {H : Hp} {s : Shared} {Q : VK} {us : List Value} {vs : List V}
    (F : FnG X.prog X.w X.K X.mg X.base k f fd ps sp) (hG : X.A.guards = some []) (hr : Room k X.A)
    (hb : Binds X.K fd ps []) (I : Inv X pins σ H s) (r : Vals vs us) (h : sp vs H Q E0) :
    wpAny (model X.prog X.w) X.A (call (.ref f) us) (EP X pins σ Q) X.xe s := by
  have hl : (us ++ []).length = ps.length := by
    rw [List.append_nil, ← r.length]
    exact F.len _ _ _ _ h
  have hb' := hb s us I.kIn hl
  rw [List.append_nil] at hb'
  refine wpAny_call (codeAny_mono
    (F.run X.A X.stack s H ⟨us, []⟩ us vs Q E0 hG hr I.env0 hb' r h) fun q s' hq => ?_)
  match q, hq with
  | .error _, hq => exact False.elim hq
  | .ok (.ret _), hq => exact I.after hq
  | .ok .next, hq => exact False.elim hq
  | .ok .brk, hq => exact False.elim hq
  | .ok .cont, hq => exact False.elim hq

theorem pe_callG (F : FnG X.prog X.w X.K X.mg X.base k f fd ps sp) (hG : X.A.guards = some []) (hr : Room k X.A)
    (hg : Gl X x) (hm : X.mg x = some (.ref f)) (hk : PySem.W.keepIn X.K (.ref f) = true)
    (hb : Binds X.K fd ps []) (ha : PA X (e :: es) t)
    (hdb : (x == ("__debug__" : Str)) = false := by decide)
    (he : starEach (e :: es) X.env = (false, eval e X.env) :: starEach es X.env := by rfl)
    (hpl : (backTo pos (starEach es X.env)).any (·.1) = false := by rfl) :
    PE X (.Call (.Name x p) (e :: es) [] pos) (tCall sp [] E0 t) := by
  refine ⟨fun pins s σ H Q I h => wpAny_Call_Name_kw (ld_glob I hg hm ?_ hdb)⟩
  refine PySem.W.callWith_K (h₀ := X.base) I.ok.mod.kin hk
    (thn (ha.run pos pins s σ H _ I h) fun us s1 ⟨vs, H1, I1, r, q⟩ => ⟨I1.kIn, ?_⟩) he hpl
  refine runG F hG hr hb I1 r ?_
  rw [← List.append_nil vs]
  exact q
end

/-- a def of the text, by its body, where the guards are none -/
theorem okG {P : Program} {w : World} {K : PySem.W.Frag} {mg : Str → Option Value} {base : Heap}
    {x qual : Str} {st : Stmt} {f : Addr} {fd : FuncData} {N ps : List Str} {k : Nat} {sp : Sp}
    (F : Fun K x qual st f fd) (S : FnScope N ps (defScope st))
    (len : ∀ vs H Q E, sp vs H Q E → vs.length = ps.length)
    (hbody : ∀ (cdv : Value) (A : Around) (outer : List Env) (s : Shared) (H : Hp) (vs : List V) (Q : VK) (E : XK),
      A.guards = some [] → Room k (A.deeper (envOfC qual (defScope st) s.heap.objs.size f cdv)) → sp vs H Q E →
      ∃ t, PSs (cxOf CX0 P w K mg base N qual (defScope st) f cdv A outer s H E).nox (defBody st) t ∧
        t { nx := fun _ H' => Q .non H', rt := Q } (start N vs) H) :
    FnG P w K mg base (k + 1) f fd ps sp := by
  obtain ⟨oc, od, kV, doc, pm, an, cdv, ct, osl, rfl, lk, hcd⟩ := F.ex
  refine ⟨len, ?_⟩
  intro A outer s H args us vs Q E hG hr e0 hb r hsp
  have hl := len _ _ _ _ hsp
  have keepB : ∀ b o, base.get? b = some o → s.heap.get? b = some o := fun b o e => (e0.bs b o e).1
  have KX : K.In s.heap := e0.mod.kin.keeps keepB
  have lim : s.heap.NoLimit := e0.mod.nolimit.keeps keepB
  refine codeAny_call_function hr.depth (KX _ _ lk) rfl S.co S.gen rfl (PySem.W.codeRec_of KX hcd)
    (hb _ _ _ _ ?_)
  refine wpAny_newFunctionEnv_cells S.kind (fun y hy => ?_) fun env he s1 x => ?_
  · obtain ⟨n, v⟩ := y
    cases S.par n (List.of_mem_zip hy).1 with
    | inl q => exact .inl q
    | inr q => exact .inr ⟨q, PySem.W.cellsFrom_some _ _ _ (.inl q)⟩
  subst he
  refine ⟨lim.keeps x.toInCall.keep, codeAny_func ?_⟩
  obtain ⟨t, ht, hq⟩ := hbody cdv A outer s H vs Q E hG (hr.deeper _) hsp
  have I := inv_start (CX := CX0) (P := P) (w := w) (K := K) (mg := mg) (base := base) (N := N) (qual := qual)
    (cd := cdv) (E := E) (f := f) S hr.hd e0 hl r x
  refine wpAny_mono (ht.nox.run [] s1 (start N vs) H _ I hq) (fun fl s' hs => ?_) fun e s' hs => hs
  match fl, hs with
  | .ret _, ⟨v, _, H', J, rv, q⟩ => exact ⟨v, H', J.os, J.bare, J.base, J.hok, rv, q⟩
  | .next, ⟨_, H', J, q⟩ => exact ⟨.non, H', J.os, J.bare, J.base, J.hok, rfl, q⟩
  | .brk, ⟨_, _, _, q⟩ => exact False.elim q
  | .cont, ⟨_, _, _, q⟩ => exact False.elim q

/-! ### the law's own call -/
section
variable {P : Program} {w : World} {K : PySem.W.Frag} {mg mb : Str → Option Value} {k : Nat} {fa a : Addr}
  {fd : FuncData} {x : Str} {sp : Sp} {s₁ : Shared} {vs : List Value} {ns : List Int}

/-- the heap that knows the script alone, or nothing -/
def scriptH (a : Addr) (o : Option HO) : Hp := fun b => if b = a then o else none

theorem scriptH_same {a : Addr} {o : Option HO} : scriptH a o a = o := if_pos rfl
theorem scriptH_ne {a b : Addr} {o : Option HO} (h : b ≠ a) : scriptH a o b = none := if_neg h

abbrev LawEnd (s₁ : Shared) (r : Result) (s' : Shared) : Prop :=
  r = .ok (.ret (.bool true)) ∧ OldK s₁.heap s'.heap ∧ s'.os = s₁.os ∧ AllBare s'.gens

theorem law_runG (KX : K.In s₁.heap) (hns : s₁.heap.Ns mainGlobals mg) (hb : s₁.heap.Ns builtinsNs mb)
    (hbb : ∀ x : Str, x ≠ "__name__" → mb x = bootBuiltins x) (hlim : s₁.heap.NoLimit) (hg : s₁.gens = #[])
    (ha : s₁.heap.get? a = some { cls := .type "list", data := .seq vs.toArray }) (hr : Room k callerA)
    (F : ∀ base : Heap, K.In base → base.Ns mainGlobals mg → FnG P w K mg base k fa fd [x] sp)
    (hbind : ∀ (s : Shared) (u : Value), BindsTo s fd ⟨[u], []⟩ [(x, u)])
    {H : Hp} (hO : Only H) (hok : HOk P w H s₁.heap) (hA : ∀ b, H b ≠ none → b = a)
    (hK : H a ≠ none → K.lookup a = none) (hsp : sp [.ref a] H (fun v _ => v = .bl true) E0) :
    codeAny (model P w) callerA (.call (.ref fa) ⟨[.ref a], []⟩) (LawEnd s₁) s₁ := by
  have only_a : ∀ {b : Addr}, b ≠ a → H b = none := fun {b} ne => by
    cases q : H b with
    | none => rfl
    | some u => exact absurd (hA b (by rw [q]; exact fun z => nomatch z)) ne
  have noDict : ∀ {b : Addr} {o : Obj} {es : Array DictEntry} {ep : Nat},
      s₁.heap.get? b = some o → o.data = .dict es ep → H b = none := fun {b o es ep} e d => by
    by_cases hb : b = a
    · rw [hb, ha] at e
      cases e
      have d' : Data.seq vs.toArray _ = Data.dict es ep := d
      cases d'
    · exact only_a hb
  have toNs : ∀ {b : Addr} {m : Str → Option Value}, s₁.heap.Ns b m → (hidT s₁.heap H).Ns b m :=
    fun {b m} ⟨o, es, ep, e, d, r⟩ => ⟨o, es, ep, hidT_get e (noDict e d), d, r⟩
  have hKb : K.In (hidT s₁.heap H) := fun b o e => by
    refine hidT_get (KX b o e) ?_
    by_cases hb : b = a
    · cases q : H b with
      | none => rfl
      | some u =>
        rw [hb] at e q
        rw [hK (by rw [q]; exact fun z => nomatch z)] at e
        cases e
    · exact only_a hb
  have hM : Mod K mg (hidT s₁.heap H) := by
    refine ⟨hKb, toNs hns, ⟨mb, toNs hb, hbb⟩, ?_⟩
    obtain ⟨mc, h1, h2⟩ := hlim
    exact ⟨mc, toNs h1, h2⟩
  have noA : ∀ b : Addr, b ∉ frs [] := fun b z => absurd (show b ∈ ([] : List Addr) from z) (by simp)
  have e0 : Env0 P w K mg (hidT s₁.heap H) callerA [] s₁ H :=
    ⟨rfl, hM, fun b o e => of_hidT e, Nat.le_of_eq (hidT_size _ _), trivial,
      fun b z => absurd z (noA b), hok, .of_eq hg⟩
  refine codeAny_mono ((F _ hKb (toNs hns)).run callerA [] s₁ H ⟨[.ref a], []⟩ [.ref a] [.ref a] _ _
    rfl hr e0 (hbind s₁ (.ref a)) (.cons rfl .nil) hsp) fun r s' h => ?_
  match r, h with
  | .error _, h => exact False.elim h
  | .ok .next, h => exact False.elim h
  | .ok .brk, h => exact False.elim h
  | .ok .cont, h => exact False.elim h
  | .ok (.ret u), ⟨v, H', os, bare, un, hok', rv, q⟩ =>
    have q' : v = .bl true := q
    subst q'
    obtain rfl : u = Value.bool true := rv
    refine ⟨rfl, OldK.of_keep fun b o e => ?_, os, bare⟩
    cases q : H b with
    | none => exact un.keep b o e q (noA b) (by simp)
    | some u =>
      rcases hO b with z | ⟨ob, xs, z⟩
      · rw [q] at z
        cases z
      · obtain ⟨e1, _⟩ := hok b _ z
        obtain ⟨e2, _⟩ := hok' b _ (un.frzs b ob _ z)
        rw [e] at e1
        cases e1
        exact e2

theorem law_callG (KX : K.In s₁.heap) (hns : s₁.heap.Ns mainGlobals mg) (hb : s₁.heap.Ns builtinsNs mb)
    (hbb : ∀ x : Str, x ≠ "__name__" → mb x = bootBuiltins x) (hlim : s₁.heap.NoLimit) (hg : s₁.gens = #[])
    (ha : s₁.heap.get? a = some { cls := .type "list", data := .seq vs.toArray }) (hi : IntsAre vs ns)
    (hl : ns.length ≤ sizeLine) (hr : Room k callerA)
    (F : ∀ base : Heap, K.In base → base.Ns mainGlobals mg → FnG P w K mg base k fa fd [x] sp)
    (hbind : ∀ (s : Shared) (u : Value), BindsTo s fd ⟨[u], []⟩ [(x, u)])
    (hsp : ∀ H : Hp, Only H → SqL K H a (ns.map V.int) → sp [.ref a] H (fun v _ => v = .bl true) E0) :
    codeAny (model P w) callerA (.call (.ref fa) ⟨[.ref a], []⟩) (LawEnd s₁) s₁ := by
  have rv := vals_ints hi
  have lenV := hi.length
  cases hk : K.lookup a with
  | some o =>
    have e := KX a o hk
    rw [ha] at e
    cases e
    refine law_runG (H := fun _ => none) KX hns hb hbb hlim hg ha hr F hbind (fun _ => .inl rfl)
      (fun b u z => nomatch (show (none : Option HO) = some u from z)) (fun b z => absurd rfl z) (fun z => absurd rfl z) (hsp _ (fun _ => .inl rfl) ?_)
    exact .inr ⟨_, vs.toArray, _, hk, rfl, rfl, rfl, by rw [List.size_toArray, lenV]; exact hl, by simpa using rv⟩
  | none =>
    have only : Only (scriptH a (some (.frz { cls := .type "list", data := .seq vs.toArray } (.lst (ns.map V.int))))) := fun b => by
      by_cases hb : b = a
      · exact .inr ⟨_, _, by rw [hb]; exact scriptH_same⟩
      · exact .inl (scriptH_ne hb)
    refine law_runG KX hns hb hbb hlim hg ha hr F hbind only (fun b u z => ?_) (fun b z => ?_) (fun _ => hk)
      (hsp _ only (.inl (.inr ⟨_, scriptH_same⟩)))
    · by_cases hb : b = a
      · rw [hb, scriptH_same] at z
        cases z
        rw [hb]
        exact ⟨ha, by rw [List.length_map]; exact hl, vs, _, rv, ha⟩
      · rw [scriptH_ne hb] at z
        cases z
    · by_cases hb : b = a
      · exact hb
      · exact absurd (scriptH_ne hb) z
end

/-- the end of a law's row, by a guarded promise -/
theorem walk_G {l : PySem.W.OpenLaw} {n k : Nat} {q : Program} {loose : List Str}
    {XP : (Str → Option Value) → Heap → Prop} {YP : World → Heap → Prop} {d : DefRec} {K : Params → PySem.W.Frag}
    {sp : PySem.W.Frag → Sp} {x : Str} (hn : l.most = some n) (hn2 : n ≤ sizeLine) (hdf : d.params.defaults = [])
    (hr : Room k callerA) (hY : ∀ (w : World) (h : Heap), YP w h → (K w.params).In h)
    (F : ∀ (w : World) (mg : Str → Option Value) (fa : Addr) (h : Heap), (K w.params).In h → h.Ns mainGlobals mg →
      mg d.name = some (.ref fa) → ∃ fd : FuncData, (∀ (s : Shared) (u : Value), BindsTo s fd ⟨[u], []⟩ [(x, u)]) ∧
        ∀ base : Heap, (K w.params).In base → base.Ns mainGlobals mg →
          FnG l.prog w (K w.params) mg base k fa fd [x] (sp (K w.params)))
    (hsp : ∀ (K : PySem.W.Frag) (H : Hp) (a : Addr) (ns : List Int), ns.length ≤ n → Only H →
      SqL K H a (ns.map V.int) → sp K [.ref a] H (fun v _ => v = .bl true) E0) :
    PySem.W.WalkO q loose XP YP l.row.toRowW d [] (fun f vs => PySem.call f vs) := by
  refine Att.attach_call hn hdf ?_
  intro w s₀ s₁ mg mb fa o pm cd doc a vs ns G Y ho hd hcd hmg hobj hints hlen hg
  have KX := hY w _ Y
  obtain ⟨fd, hb, hF⟩ := F w mg fa _ KX G.T.g hmg
  exact law_callG KX G.T.g G.T.b G.T.builtins G.T.nolimit hg hobj hints (Nat.le_trans hlen hn2) hr hF hb
    fun H hO hS => hsp _ H a ns hlen hO hS
end Bw
/-! Part 1. Data that stands in the abstract heap, dicts too, apart from what may change; its printing. -/
namespace Bw
open PySem PySem.Spec PyProof.Rows L2

/-- all that H knows but at W stands in H' -/
def Kp (W : Addr → Prop) (H H' : Hp) : Prop := ∀ a o, ¬ W a → H a = some o → H' a = some o
theorem Kp.refl {W : Addr → Prop} (H : Hp) : Kp W H H := fun _ _ _ e => e
theorem Kp.trans {W : Addr → Prop} {H H1 H2 : Hp} (a : Kp W H H1) (b : Kp W H1 H2) : Kp W H H2 :=
  fun x o n e => b x o n (a x o n e)
theorem Kp.new {W : Addr → Prop} {H : Hp} {p : Addr} {o : HO} (h : H p = none) : Kp W H (upd H p o) := fun a u _ e => by
  rw [upd_ne (ne_of_none e h)]
  exact e
theorem Kp.mut {W : Addr → Prop} {H : Hp} {p : Addr} {o : HO} (h : W p) : Kp W H (upd H p o) := fun a u n e => by
  rw [upd_ne (fun z : a = p => n (by rw [z]; exact h))]
  exact e
theorem Kp.same {W : Addr → Prop} {H H' : Hp} (h : Same H H') : Kp W H H' := fun a o _ e => h a o e
/-- what was not known before may change -/
theorem Kp.upd {W : Addr → Prop} {H H' : Hp} {p : Addr} {o : HO} (e : Kp W H H') (h : H p = none) : Kp W H (L2.upd H' p o) :=
  fun a u n q => by
    rw [upd_ne (ne_of_none q h)]
    exact e a u n q
theorem Kp.mono {W W' : Addr → Prop} {H H' : Hp} (e : Kp W H H') (h : ∀ a, W a → W' a) : Kp W' H H' :=
  fun a o n q => e a o (fun z => n (h a z)) q

def keyD : Key → PyData
  | .inl i => .int i
  | .inr x => .str x

mutual
inductive Dq (W : Addr → Prop) (H : Hp) : V → PyData → Prop
  | non : Dq W H .non .none
  | bl (b : Bool) : Dq W H (.bl b) (.bool b)
  | int (i : Int) : Dq W H (.int i) (.int i)
  | str (x : Str) : Dq W H (.str x) (.str x)
  | lst {a : Addr} {xs : List V} {ds : List PyData} : ¬ W a → H a = some (.lst xs) → DqAll W H xs ds → Dq W H (.ref a) (.list ds)
  | tup {a : Addr} {xs : List V} {ds : List PyData} : ¬ W a → H a = some (.tup xs) → DqAll W H xs ds → Dq W H (.ref a) (.tuple ds)
  | dct {a : Addr} {kvs : List (Key × V)} {ds : List PyData} : ¬ W a → H a = some (.dK kvs) → DqAll W H (kvs.map (·.2)) ds →
      Dq W H (.ref a) (.dict ((kvs.map fun kv => keyD kv.1).zip ds))
inductive DqAll (W : Addr → Prop) (H : Hp) : List V → List PyData → Prop
  | nil : DqAll W H [] []
  | cons {v : V} {vs : List V} {d : PyData} {ds : List PyData} : Dq W H v d → DqAll W H vs ds → DqAll W H (v :: vs) (d :: ds)
end

mutual
theorem Dq.keep {W : Addr → Prop} {H H' : Hp} (k : Kp W H H') : ∀ {v : V} {d : PyData}, Dq W H v d → Dq W H' v d
  | _, _, .non => .non
  | _, _, .bl b => .bl b
  | _, _, .int i => .int i
  | _, _, .str x => .str x
  | _, _, .lst n e h => .lst n (k _ _ n e) (DqAll.keep k h)
  | _, _, .tup n e h => .tup n (k _ _ n e) (DqAll.keep k h)
  | _, _, .dct n e h => .dct n (k _ _ n e) (DqAll.keep k h)
theorem DqAll.keep {W : Addr → Prop} {H H' : Hp} (k : Kp W H H') : ∀ {vs : List V} {ds : List PyData}, DqAll W H vs ds → DqAll W H' vs ds
  | _, _, .nil => .nil
  | _, _, .cons h t => .cons (Dq.keep k h) (DqAll.keep k t)
end
mutual
theorem Dq.weak {W W' : Addr → Prop} {H : Hp} (k : ∀ a, W a → W' a) : ∀ {v : V} {d : PyData}, Dq W' H v d → Dq W H v d
  | _, _, .non => .non
  | _, _, .bl b => .bl b
  | _, _, .int i => .int i
  | _, _, .str x => .str x
  | _, _, .lst n e h => .lst (fun z => n (k _ z)) e (DqAll.weak k h)
  | _, _, .tup n e h => .tup (fun z => n (k _ z)) e (DqAll.weak k h)
  | _, _, .dct n e h => .dct (fun z => n (k _ z)) e (DqAll.weak k h)
theorem DqAll.weak {W W' : Addr → Prop} {H : Hp} (k : ∀ a, W a → W' a) : ∀ {vs : List V} {ds : List PyData}, DqAll W' H vs ds → DqAll W H vs ds
  | _, _, .nil => .nil
  | _, _, .cons h t => .cons (Dq.weak k h) (DqAll.weak k t)
end
theorem DqAll.length {W : Addr → Prop} {H : Hp} : ∀ {vs : List V} {ds : List PyData}, DqAll W H vs ds → vs.length = ds.length
  | _, _, .nil => rfl
  | _, _, .cons _ t => congrArg (· + 1) t.length
theorem DqAll.rep {W : Addr → Prop} {H : Hp} {v : V} {d : PyData} (h : Dq W H v d) : ∀ n : Nat, DqAll W H (List.replicate n v) (List.replicate n d)
  | 0 => .nil
  | n + 1 => .cons h (DqAll.rep h n)
theorem DqAll.app {W : Addr → Prop} {H : Hp} {vs ws : List V} {ds es : List PyData} : DqAll W H vs ds → DqAll W H ws es → DqAll W H (vs ++ ws) (ds ++ es)
  | .nil, k => k
  | .cons h t, k => .cons h (t.app k)
theorem DqAll.bls {W : Addr → Prop} {H : Hp} : ∀ bs : List Bool, DqAll W H (bs.map V.bl) (bs.map PyData.bool)
  | [] => .nil
  | b :: r => .cons (.bl b) (DqAll.bls r)
theorem DqAll.at {W : Addr → Prop} {H : Hp} : ∀ {vs : List V} {ds : List PyData} {i : Nat} {v : V}, DqAll W H vs ds → vs[i]? = some v → ∃ d, ds[i]? = some d ∧ Dq W H v d
  | _, _, _, _, .nil, e => by simp at e
  | _, _, 0, _, .cons h _, e => by
    simp at e
    subst e
    exact ⟨_, rfl, h⟩
  | _, _, i + 1, _, .cons _ t, e => t.at (i := i) e

/-! ### what is read off the heap, dicts other than that of the modules -/
mutual
inductive RdS (h : Heap) : Value → PyData → Prop
  | none : RdS h .none .none
  | bool (b) : RdS h (.bool b) (.bool b)
  | int (i t) : RdS h (.int i t) (.int i)
  | str (x t) : RdS h (.str x t) (.str x)
  | list {a o vs n xs} : h.get? a = some o → o.cls = .type "list" → o.data = .seq vs n → RdSAll h vs.toList xs → RdS h (.ref a) (.list xs)
  | tuple {a o vs n xs} : h.get? a = some o → o.cls = .type "tuple" → o.data = .seq vs n → RdSAll h vs.toList xs → RdS h (.ref a) (.tuple xs)
  | dict {a o es n kvs} : h.get? a = some o → o.cls = .type "dict" → o.data = .dict es n → (a == sysModules) = false →
      RdSAll h (es.toList.map (·.key)) (kvs.map (·.1)) → RdSAll h (es.toList.map (·.val)) (kvs.map (·.2)) → RdS h (.ref a) (.dict kvs)
inductive RdSAll (h : Heap) : List Value → List PyData → Prop
  | nil : RdSAll h [] []
  | cons {v vs d ds} : RdS h v d → RdSAll h vs ds → RdSAll h (v :: vs) (d :: ds)
end
mutual
theorem RdS.reads {h : Heap} : ∀ {v : Value} {d : PyData}, RdS h v d → ∃ as, Reads h v d as
  | _, _, .none => ⟨_, .none⟩
  | _, _, .bool b => ⟨_, .bool b⟩
  | _, _, .int i t => ⟨_, .int i t⟩
  | _, _, .str x t => ⟨_, .str x t⟩
  | _, _, .list h1 h2 h3 h4 => let ⟨_, q⟩ := RdSAll.reads h4; ⟨_, .list h1 h2 h3 q⟩
  | _, _, .tuple h1 h2 h3 h4 => let ⟨_, q⟩ := RdSAll.reads h4; ⟨_, .tuple h1 h2 h3 q⟩
  | _, _, .dict h1 h2 h3 _ h4 h5 => let ⟨_, q⟩ := RdSAll.reads h4; let ⟨_, r⟩ := RdSAll.reads h5; ⟨_, .dict h1 h2 h3 q r⟩
theorem RdSAll.reads {h : Heap} : ∀ {vs : List Value} {ds : List PyData}, RdSAll h vs ds → ∃ as, ReadsAll h vs ds as
  | _, _, .nil => ⟨_, .nil⟩
  | _, _, .cons h1 h2 => let ⟨_, q⟩ := RdS.reads h1; let ⟨_, r⟩ := RdSAll.reads h2; ⟨_, .cons q r⟩
end

section
variable {prog : Program} {w : World} {h₀ : Heap}
mutual
theorem RdS.reprK : ∀ {v : Value} {d : PyData}, RdS h₀ v d → d.showable = true → d.shown.length ≤ sizeLine →
    ∃ bs, ReadAtMost h₀ d.depth bs ∧ ReprK prog w bs h₀ d.depth v d.shown
  | _, _, .none, _, _ => ⟨[], (fun _ h => nomatch h), by simp only [PyData.shown]; exact .of_is ReprIs.none _ _ _⟩
  | _, _, .bool b, _, _ => ⟨[], (fun _ h => nomatch h), by simp only [PyData.shown]; exact .of_is (ReprIs.bool b) _ _ _⟩
  | _, _, .int i t, hs, _ =>
    ⟨[], (fun _ h => nomatch h), by simp only [PyData.shown]; exact .of_is (ReprIs.int t (by simpa [PyData.showable] using hs)) _ _ _⟩
  | _, _, .str x t, _, hz =>
    ⟨[], (fun _ h => nomatch h), by simp only [PyData.shown]; exact .of_is (ReprIs.str x t (by simpa only [PyData.shown] using hz)) _ _ _⟩
  | _, _, .list (a := a) (vs := vs) (xs := xs) h1 h2 h3 h4, hs, hz => by
    have hz' : (listText (PyData.shownAll xs)).length ≤ sizeLine := by simpa only [PyData.shown] using hz
    obtain ⟨bs, hb, hk⟩ := RdSAll.reprK h4 (by simpa [PyData.showable] using hs) fun t ht => Nat.le_trans (listText_mem_le ht) hz'
    obtain ⟨_, r⟩ := RdS.reads (.list h1 h2 h3 h4)
    have deep : PyData.depthAll xs < (PyData.list xs).depth := by simp only [PyData.depth]; omega
    refine ⟨a :: bs, ReadAtMost.cons r (Nat.le_of_lt deep) hb, ?_⟩
    simp only [PyData.depth, PyData.shown]
    obtain ⟨l⟩ := vs
    cases l with
    | nil =>
      have h4' : RdSAll h₀ [] xs := h4
      cases h4'
      simp only [PyData.shownAll, listText_nil]
      exact ReprK.listEmpty h1 h2 h3
    | cons x l =>
      exact ReprK.list h1 h2 h3 (not_mem_of_deeper r deep hb) (by simpa using hk.length_eq) fun i y e => hk.item i y (by simpa using e)
  | _, _, .tuple (a := a) (xs := xs) h1 h2 h3 h4, hs, hz => by
    have hz' : (tupleText (PyData.shownAll xs)).length ≤ sizeLine := by simpa only [PyData.shown] using hz
    obtain ⟨bs, hb, hk⟩ := RdSAll.reprK h4 (by simpa [PyData.showable] using hs) fun t ht => Nat.le_trans (tupleText_mem_le ht) hz'
    obtain ⟨_, r⟩ := RdS.reads (.tuple h1 h2 h3 h4)
    have deep : PyData.depthAll xs < (PyData.tuple xs).depth := by simp only [PyData.depth]; omega
    refine ⟨a :: bs, ReadAtMost.cons r (Nat.le_of_lt deep) hb, ?_⟩
    simp only [PyData.depth, PyData.shown]
    exact ReprK.tuple h1 h2 h3 (not_mem_of_deeper r deep hb) hk
  | _, _, .dict (a := a) (es := es) (kvs := kvs) h1 h2 h3 hsys h4 h5, hs, hz => by
    have hz' : (dictText (PyData.shownKv kvs)).length ≤ sizeLine := by simpa only [PyData.shown] using hz
    obtain ⟨hs1, hs2⟩ := PyData.showableKv_split kvs (by simpa [PyData.showable] using hs)
    have le_key : ∀ t ∈ PyData.shownAll (kvs.map (·.1)), t.length ≤ sizeLine := fun t ht => by
      obtain ⟨p, hp, hl⟩ := PyData.shownKv_key_le kvs t ht
      exact Nat.le_trans hl (Nat.le_trans (dictText_mem_le hp) hz')
    have le_val : ∀ t ∈ PyData.shownAll (kvs.map (·.2)), t.length ≤ sizeLine := fun t ht => by
      obtain ⟨p, hp, hl⟩ := PyData.shownKv_val_le kvs t ht
      exact Nat.le_trans hl (Nat.le_trans (dictText_mem_le hp) hz')
    obtain ⟨b1, hb1, k1⟩ := RdSAll.reprK h4 hs1 le_key
    obtain ⟨b2, hb2, k2⟩ := RdSAll.reprK h5 hs2 le_val
    obtain ⟨_, r⟩ := RdS.reads (.dict h1 h2 h3 hsys h4 h5)
    have hb : ReadAtMost h₀ (PyData.depthKv kvs) (b1 ++ b2) :=
      (hb1.mono (PyData.depthAll_keys_le kvs)).append (hb2.mono (PyData.depthAll_vals_le kvs))
    have deep : PyData.depthKv kvs < (PyData.dict kvs).depth := by simp only [PyData.depth]; omega
    refine ⟨a :: (b1 ++ b2), ReadAtMost.cons r (Nat.le_of_lt deep) hb, ?_⟩
    simp only [PyData.depth, PyData.shown, PyData.shownKv_eq]
    refine ReprK.dict h1 h2 h3 hsys (not_mem_of_deeper r deep hb) (ReprEntriesK.of_two es.toList _ _ ?_ ?_)
    · exact k1.more_le (fun b hb => List.mem_append_left _ hb) (PyData.depthAll_keys_le kvs)
    · exact k2.more_le (fun b hb => List.mem_append_right _ hb) (PyData.depthAll_vals_le kvs)
theorem RdSAll.reprK : ∀ {vs : List Value} {ds : List PyData}, RdSAll h₀ vs ds → PyData.showableAll ds = true → (∀ t ∈ PyData.shownAll ds, t.length ≤ sizeLine) →
    ∃ bs, ReadAtMost h₀ (PyData.depthAll ds) bs ∧ ReprAllK prog w bs h₀ (PyData.depthAll ds) vs (PyData.shownAll ds)
  | _, _, .nil, _, _ => ⟨[], (fun _ h => nomatch h), by simp only [PyData.shownAll]; exact .nil⟩
  | _, _, .cons (d := d) (ds := ds) r rs, hs, hz => by
    have hs' : d.showable = true ∧ PyData.showableAll ds = true := by simpa [PyData.showableAll] using hs
    obtain ⟨b1, hb1, k1⟩ := RdS.reprK r hs'.1 (hz _ (by simp only [PyData.shownAll]; exact List.mem_cons_self ..))
    obtain ⟨b2, hb2, k2⟩ := RdSAll.reprK rs hs'.2 fun t ht => hz t (by simp only [PyData.shownAll]; exact List.mem_cons_of_mem _ ht)
    have l1 : d.depth ≤ PyData.depthAll (d :: ds) := by simp only [PyData.depthAll]; exact Nat.le_max_left _ _
    have l2 : PyData.depthAll ds ≤ PyData.depthAll (d :: ds) := by simp only [PyData.depthAll]; exact Nat.le_max_right _ _
    refine ⟨b1 ++ b2, (hb1.mono l1).append (hb2.mono l2), ?_⟩
    simp only [PyData.shownAll]
    exact .cons ((k1.more fun b hb => List.mem_append_left _ hb).level_le l1) (k2.more_le (fun b hb => List.mem_append_right _ hb) l2)
end

/-- repr of a list that is read so -/
theorem repr_list {a : Addr} {xs : List PyData} {A : Around} {E : Value → Shared → Prop} {s : Shared} {Q : Value → Shared → Prop}
    (r : RdS s.heap (.ref a) (.list xs)) (hs : PyData.showableAll xs = true) (hz : (PyData.list xs).shown.length ≤ sizeLine)
    (hg : A.guards = some []) (hu : A.units + ((PyData.list xs).depth + 1) < cLine)
    (hQ : ∀ h' u tk, (∀ b o, s.heap.get? b = some o → h'.get? b = some o) → Q (.str (PyData.list xs).shown u) { s with heap := h', toks := tk }) :
    wpAny (model prog w) A (call (.builtin "repr") [.ref a]) Q E s := by
  have deep : PyData.depthAll xs < (PyData.list xs).depth := by simp only [PyData.depth]; omega
  obtain ⟨_, rr⟩ := r.reads
  cases r with
  | list h1 h2 h3 h4 =>
    rename_i o vs n
    have hz' : (listText (PyData.shownAll xs)).length ≤ sizeLine := by simpa only [PyData.shown] using hz
    obtain ⟨bs, hb, hk⟩ := RdSAll.reprK (prog := prog) (w := w) h4 hs fun t ht => Nat.le_trans (listText_mem_le ht) hz'
    simp only [PyData.depth] at hu
    simp only [PyData.shown] at hQ
    refine call_repr_slot (by omega) ⟨o, h1, h2⟩ F.slot_list_repr.toG ?_
    obtain ⟨l⟩ := vs
    cases l with
    | nil =>
      have h4' : RdSAll s.heap [] xs := h4
      cases h4'
      simp only [PyData.shownAll, listText_nil] at hQ
      exact call_list_repr_empty ⟨o, h1, h2⟩ h1 h3 ⟨_, _, rfl, hQ s.heap _ _ fun _ _ e => e⟩
    | cons x l =>
      exact call_list_reprK h1 h2 h3 (not_mem_of_deeper rr deep hb) (by simpa using hk.length_eq) (fun i y e => hk.item i y (by simpa using e))
        hg (fun b _ => Clear.nil b) (by show A.units + 1 + (PyData.depthAll xs + 1) < cLine; omega) (fun _ _ e => e)
        (fun h' u tk hk => ⟨_, _, rfl, hQ h' u tk hk⟩) hz'
end

section
variable {X : Cx} {pins : List (Addr × Obj)} {σ : L2.St} {H : Hp} {s : Shared} {W : Addr → Prop}
theorem keyD_reads {h : Heap} {k : Key} {v : Value} (e : keyIs k v = true) : RdS h v (keyD k) := by
  rcases keyIs_shape e with ⟨i, t, rfl, rfl⟩ | ⟨x, t, rfl, rfl⟩
  · exact .int i t
  · exact .str x t
theorem keys_read {h : Heap} {P : Program} {w : World} : ∀ {es : List DictEntry} {kvs : List (Key × Value)}, PySem.Pairs (mixKind P w) es kvs →
    RdSAll h (es.map (·.key)) (kvs.map fun kv => keyD kv.1)
  | _, _, .nil => .nil
  | _, _, .cons h1 _ r => .cons (keyD_reads h1) (keys_read r)
theorem vals_read {P : Program} {w : World} : ∀ {es : List DictEntry} {kvs : List (Key × Value)}, PySem.Pairs (mixKind P w) es kvs →
    es.map (·.val) = kvs.map (·.2)
  | _, _, .nil => rfl
  | _, _, .cons _ h2 r => by rw [List.map_cons, List.map_cons, h2, vals_read r]
theorem KV.keys {α : Type} (f : Key → α) : ∀ {kvs : List (Key × V)} {vs : List (Key × Value)}, KV kvs vs → vs.map (fun kv => f kv.1) = kvs.map fun kv => f kv.1
  | _, _, .nil => rfl
  | _, _, .cons h r => by rw [List.map_cons, List.map_cons, h.1, KV.keys f r]
theorem KV.vals : ∀ {kvs : List (Key × V)} {vs : List (Key × Value)}, KV kvs vs → Vals (kvs.map (·.2)) (vs.map (·.2))
  | _, _, .nil => .nil
  | _, _, .cons h r => .cons h.2 (KV.vals r)
theorem zip_fst {α β : Type} : ∀ {l : List α} {m : List β}, l.length = m.length → (l.zip m).map (·.1) = l
  | [], _, _ => by simp
  | a :: l, [], h => by simp at h
  | a :: l, b :: m, h => by
    rw [List.zip_cons_cons, List.map_cons, zip_fst (Nat.succ.inj h)]
theorem zip_snd {α β : Type} : ∀ {l : List α} {m : List β}, l.length = m.length → (l.zip m).map (·.2) = m
  | [], [], _ => rfl
  | [], _ :: _, h => by simp at h
  | a :: l, [], h => by simp at h
  | a :: l, b :: m, h => by
    rw [List.zip_cons_cons, List.map_cons, zip_snd (Nat.succ.inj h)]

mutual
theorem Dq.rds (I : Inv X pins σ H s) : ∀ {v : V} {d : PyData} (u : Value), Dq W H v d → RelV v u → RdS s.heap u d
  | _, _, _, .non, r => by cases r; exact .none
  | _, _, _, .bl b, r => by cases r; exact .bool b
  | _, _, _, .int i, r => by obtain ⟨t, rfl⟩ := r; exact .int i t
  | _, _, _, .str x, r => by obtain ⟨t, rfl⟩ := r; exact .str x t
  | _, _, _, .lst (a := a) (xs := xs) _ e h, r => by
    cases r
    obtain ⟨_, its, n, rv, ho⟩ := (show ObjOk X.prog X.w H s.heap a (.lst xs) from I.hok a _ e)
    exact .list ho rfl rfl (DqAll.rds I its h rv)
  | _, _, _, .tup (a := a) (xs := xs) _ e h, r => by
    cases r
    obtain ⟨_, its, rv, o, ho, hc, n, hd⟩ := (show ObjOk X.prog X.w H s.heap a (.tup xs) from I.hok a _ e)
    exact .tuple ho hc hd (DqAll.rds I its h rv)
  | _, _, _, .dct (a := a) (kvs := kvs) (ds := ds) _ e h, r => by
    cases r
    obtain ⟨_, hsys, vs, kv, o, es, ep, ho, hx, hd, _, hp, _⟩ := dk_of I.hok e
    have hl : (kvs.map fun kv => keyD kv.1).length = ds.length := by
      have := h.length
      rw [List.length_map] at this ⊢
      exact this
    refine .dict ho hx.1 hd hsys ?_ ?_
    · rw [zip_fst hl, ← KV.keys keyD kv]
      exact keys_read hp
    · rw [zip_snd hl, vals_read hp]
      exact DqAll.rds I _ h (KV.vals kv)
theorem DqAll.rds (I : Inv X pins σ H s) : ∀ {vs : List V} {ds : List PyData} (us : List Value), DqAll W H vs ds → Vals vs us → RdSAll s.heap us ds
  | _, _, _, .nil, r => by cases r; exact .nil
  | _, _, _, .cons h t, r => by
    cases r with
    | cons r1 r2 => exact .cons (Dq.rds I _ h r1) (DqAll.rds I _ t r2)
end

/-- repr(xs), xs a list of data -/
def rRepr : List V → Hp → VK → Prop := fun vs H Q => ∃ (W : Addr → Prop) (v : V) (xs : List PyData), vs = [v] ∧ Dq W H v (.list xs) ∧ PyData.showableAll xs = true ∧
  (PyData.list xs).shown.length ≤ sizeLine ∧ (PyData.list xs).depth ≤ 60 ∧ Q (.str (PyData.list xs).shown) H
theorem call_repr {k : Nat} (hG : X.A.guards = some []) (hr : Room k X.A) : CallR X (.builtin "repr") rRepr := by
  intro pins s σ H xs us Q I r h
  obtain ⟨W, v, ds, rfl, hd, hs, hz, hdp, q⟩ := h
  obtain ⟨u, rfl, ru⟩ := Vals.one r
  have hu := hr.units
  cases hd with
  | lst n e h =>
    have rr := Dq.rds I u (.lst n e h) ru
    obtain rfl : u = _ := ru
    exact repr_list rr hs hz hG (by omega) fun h' t tk hk => ⟨.str _, H, I.kept (t' := tk) hk, ⟨t, rfl⟩, q⟩
end
end Bw
/-! Part 2. Exceptions of own classes, made by keywords, held as values, read, asked for their class. -/
namespace Bw
open PySem PySem.Spec PySem.W PySem.Calls PyProof.Rows PySem.HandSPX

section
variable {M : Model} {A : Around} {E : Value → Shared → Prop} {h : Heap} {g : Array GenState} {d : Drawn} {t : Nat} {os : OsState}
variable {nm q : Str} {C N : Addr} {bs bm bmB : List Value} {hdct : Bool} {sn : List Str} {sub : List Value} {ab : Bool} {col : Option Bool} {dd : Option Addr}
  {k0 k1 k2 k3 k5 : Option Value} {B newId initId : String}

theorem newK_check (F : ExcBaseFacts B newId initId bmB) (hT : ∀ X : String, bm.contains (.type X) = bmB.contains (.type X)) {kw : List (Str × Value)} {Q : Unit → Shared → Prop}
    (hC : h.get? C = some (excClassObj nm q C N bs bm hdct sn sub ab col dd k0 k1 k2 k3 k5 newId))
    (hq : Q () ⟨h, g, d, t, os⟩) : wpAny M A (checkBuiltinCall newId ⟨[.ref C], kw⟩) Q E ⟨h, g, d, t, os⟩ := by
  have isB : (Value.ref C :: bm).contains (.type B) = true := by rw [List.contains_cons, hT, F.hasB, Bool.or_true]
  have star := F.noStar
  simp only [checkBuiltinCall, F.newKind, F.newSplit, F.newRow]
  repeat (first
    | refine wpAny_loadPart_at hC ?_
    | (refine wpAny_isSubtype_exc hC ?_; rw [isB])
    | refine wpAny_staticBase_exc hC ?_
    | refine wpAny_madeBy_exc hC ?_
    | simp only [bne_self_eq_false, Bool.false_eq_true, if_false]
    | wp_step)
  exact hq
end

section
variable {prog : Program} {w : World} {A : Around} {E : Value → Shared → Prop} {R : Result → Shared → Prop} {h : Heap} {g : Array GenState} {d : Drawn} {t : Nat} {os : OsState}
variable {nm q : Str} {C N : Addr} {bs bm bmB : List Value} {hdct : Bool} {sn : List Str} {sub : List Value} {ab : Bool} {col : Option Bool} {dd : Option Addr}
  {k0 k1 k2 k3 k5 : Option Value} {B newId initId : String} {kw : List (Str × Value)} {fI : Addr}

theorem newK_run (F : ExcBaseFacts B newId initId bmB) (hT : ∀ X : String, bm.contains (.type X) = bmB.contains (.type X))
    (hC : h.get? C = some (excClassObj nm q C N bs bm hdct sn sub ab col dd k0 k1 k2 k3 k5 newId))
    (hq : R (.ok (.ret (.ref (h.objs.size + 1)))) ⟨(h.push (kdv_tup [])).push (excO C h.objs.size), g, d, t, os⟩) :
    codeAny (model prog w) A (.builtin newId ⟨[.ref C], kw⟩) R ⟨h, g, d, t, os⟩ := by
  have hends := F.ends
  have isB : (Value.ref C :: bm).contains (.type B) = true := by rw [List.contains_cons, hT, F.hasB, Bool.or_true]
  have noA : (Value.ref C :: bm).contains (.type "AttributeError") = false := by rw [List.contains_cons, hT, F.noAttr]; rfl
  have noN : (Value.ref C :: bm).contains (.type "NameError") = false := by rw [List.contains_cons, hT, F.noName]; rfl
  refine codeAny_builtinAt F.entry ?_
  unfold Builtin.«BaseException.__new__»
  refine PySem.wpAt_bind ?_
  show PySem.wpAt _ _ _ (stack >>= _) _ _ _
  refine PySem.wpAt_bind (PySem.wpAt_stack fun p below => PySem.wpAt_of_wpAny ?_)
  wp_walk
  refine PySem.wpAt_of_wpAny ?_
  rw [F.owner]
  repeat (first
    | with_reducible refine wpAny_madeHere_exc F.canon hC ?_
    | with_reducible refine wpAny_loadPart_at hC ?_
    | (with_reducible refine wpAny_isSubtype_exc hC ?_; first | rw [isB] | rw [noA] | rw [noN])
    | wp_step)
  show R _ _
  rw [Heap.size_push]
  exact hq

theorem typeK_call (F : ExcBaseFacts B newId initId bmB) (hT : ∀ X : String, bm.contains (.type X) = bmB.contains (.type X)) {Q : Fin → Shared → Prop}
    (hC : h.get? C = some (excClassObj nm q C N bs bm hdct sn sub ab col dd k0 k1 k2 k3 k5 newId))
    (hi : W.Looks (model prog w) h (typeLookup (.ref C) "__init__") (some (.ref fI)))
    (hb : ∀ self, W.Looks (model prog w) h (bindSpecial (.ref fI) self) (.ref fI, [self]))
    (hq : codeAny (model prog w) A (.call (.ref fI) ⟨[.ref (h.objs.size + 1)], kw⟩)
      (fun r s' => match r with | .ok (.ret v) => v = .none ∧ Q (.done (.ret (.ref (h.objs.size + 1)))) s' | .ok _ => False | .error e => E e s')
      ⟨(h.push (kdv_tup [])).push (excO C h.objs.size), g, d, t, os⟩) :
    wpAny (model prog w) A (Builtin.«type.__call__» ⟨[.ref C], kw⟩) Q E ⟨h, g, d, t, os⟩ := by
  repeat (first | with_reducible refine wpAny_loadPart_at hC ?_ | with_reducible refine wpAny_madeBy_exc hC ?_ | wp_step)
  refine codeAny_call_builtin_code (Code.quiet_builtin _ F.quiet) (newK_check F hT hC ?_)
  refine newK_run F hT hC ?_
  show wpAny _ _ _ _ _ _
  have k : ∀ b o, h.get? b = some o → ((h.push (kdv_tup [])).push (excO C h.objs.size)).get? b = some o :=
    fun b o e => Heap.get?_push_of_some _ (Heap.get?_push_of_some _ e)
  have hC₁ := k _ _ hC
  have hget : ((h.push (kdv_tup [])).push (excO C h.objs.size)).get? (h.objs.size + 1) = some (excO C h.objs.size) := by heap_get
  have isC : (Value.ref C :: bm).contains (.ref C) = true := by simp
  have i1 := hi.keeps k
  have b1 := (hb (.ref (h.objs.size + 1))).keeps k
  unfold isInstance
  repeat (first | with_reducible refine wpAny_loadPart_at hget ?_ | (with_reducible refine wpAny_isSubtype_exc hC₁ ?_; rw [isC]) | wp_step)
  show wpAny _ _ (typeLookup (.ref C) _) _ _ _
  refine i1.at (wpAny_holding (wpAny_bind (b1.at ?_)))
  refine wpAny_bind (wpAny_call (codeAny_mono hq fun r s' z => ?_))
  match r, z with
  | .error _, z => exact z
  | .ok .next, z => exact z.elim
  | .ok .brk, z => exact z.elim
  | .ok .cont, z => exact z.elim
  | .ok (.ret v), ⟨e, z⟩ =>
    subst e
    first
      | exact wpAny_pure (wpAny_pure z)
      | (wp_walk; exact z)

theorem callK_own (F : ExcBaseFacts B newId initId bmB) (hT : ∀ X : String, bm.contains (.type X) = bmB.contains (.type X))
    (hC : h.get? C = some (excClassObj nm q C N bs bm hdct sn sub ab col dd k0 k1 k2 k3 k5 newId))
    (hi : W.Looks (model prog w) h (typeLookup (.ref C) "__init__") (some (.ref fI)))
    (hb : ∀ self, W.Looks (model prog w) h (bindSpecial (.ref fI) self) (.ref fI, [self]))
    (hq : codeAny (model prog w) (A.under (.builtin "type.__call__" ⟨[.ref C], kw⟩)) (.call (.ref fI) ⟨[.ref (h.objs.size + 1)], kw⟩) (W.InitBack (h.objs.size + 1) R)
      ⟨(h.push (kdv_tup [])).push (excO C h.objs.size), g, d, t, os⟩) :
    codeAny (model prog w) A (.call (.ref C) ⟨[], kw⟩) R ⟨h, g, d, t, os⟩ := by
  have f1 := tc_lookup
  have f2 := tc_bind (.ref C)
  have isT : (⟨h, g, d, t, os⟩ : Shared).TypeIs (.ref C) "type" := ⟨_, hC, rfl⟩
  refine codeAny_of_tree ?_
  show wpAny _ _ (callAny (.ref C) _) _ _ _
  repeat (any_goals (first | assumption | with_reducible refine wpAny_loadPart_at hC ?_ | wp_step))
  refine ⟨rfl, ?_⟩
  refine codeAny_call_builtin_at (Code.quiet_builtin _ (by decide +kernel)) entry_typeCall (wpAny_check_type_call_sub hC (typeK_call F hT hC hi hb ?_))
  refine codeAny_mono hq fun r s' z => ?_
  rcases r with e | (v | _ | _ | _) <;> exact z
end
end Bw
/-! Part 3. isinstance of an exception with its dict, its fields, its making, over the abstract heap. -/
namespace Bw
open PySem PySem.Spec PySem.W PySem.Calls PyProof.Rows PySem.HandSPX
section
variable {prog : Program} {w : World} {A : Around} {E : Value → Shared → Prop} {s : Shared} {K : Frag} {x D : Addr} {ox : Obj} {od : Option Obj}

theorem dataN_any {C : Addr} {name : Str} {a g : Value} (hc : (clsIn K C).isSome = true) (ha : findIn K (.ref C) name = some (some a))
    (hg : specialIn K a "__get__" = some (some g)) (ht : takesIn K a = some true) : findObj K C od name = some (.bind g a) := by
  obtain ⟨cd, hc⟩ := Option.isSome_iff_exists.mp hc
  unfold findObj
  rw [hc, Option.bind_some, ha, Option.bind_some]
  simp [hg, ht]

/-- what isinstance asks of the class -/
structure XcI (K : Frag) (D : Addr) : Prop where
  ga : findIn K (.ref D) "__getattribute__" = some (some (.builtin "BaseException.__getattribute__"))
  gt : findIn K (.ref D) "__getattr__" = some none
  sub : subIn K (.ref D) (.type "BaseException") = some true
  hd : hasDictIn K D = true
  ca : findIn K (.ref D) "__class__" = some (some (.builtin "object.__class__"))
  ge : specialIn K (.builtin "object.__class__") "__get__" = some (some (.builtin "getset_descriptor.__get__"))
  tk : takesIn K (.builtin "object.__class__") = some true
  mr : mroIn K D (.type "object") = some true

theorem class_read {Q : Option Value → Shared → Prop} (T : XcI K D) (X : K.In s.heap) (I : InstAt s.heap x ox D od)
    (h : Q (some (.ref D)) { s with toks := s.toks + 1 }) : wpAny (model prog w) A (getAttr? (.ref x) "__class__") Q E s := by
  have there : (clsIn K D).isSome = true := by
    obtain ⟨cd, hc, _⟩ := any_some T.hd
    rw [hc]
    rfl
  have hf : findObj K D od "__class__" = some (.bind (.builtin "getset_descriptor.__get__") (.builtin "object.__class__")) := dataN_any there T.ca T.ge T.tk
  obtain ⟨hp, g, d, t, os⟩ := s
  have L0 := I.type (M := model prog w)
  have L1 := looks_findIn (M := model prog w) X T.ga
  have L2 := looks_findIn (M := model prog w) X T.gt
  have L3 := looks_find (M := model prog w) X I hf
  have sub : Looks (model prog w) hp (isInstance (.ref x) (.type "BaseException")) true := L0.andThen (looks_subIn X T.sub)
  have hx0 : (false && onTheHeap (Value.builtin "BaseException.__getattribute__")) = false := rfl
  have hx2 : (Value.builtin "BaseException.__getattribute__" == Value.builtin "object.__getattribute__") = false := by decide +kernel
  have hx1 : (onTheHeap (Value.ref D) && Value.builtin "BaseException.__getattribute__" == Value.builtin "object.__getattribute__") = false := by rw [hx2]; rfl
  unfold getAttr? getAttrBy? getAttrBy
  refine wpAny_bind (wpAny_mkText (wpAny_bind (wpAny_attempt (wpAny_holding (wpAny_bind (L0.at (wpAny_bind (L1.at ?_))))))))
  show wpAny _ _ (if (onTheHeap (Value.ref D) && Value.builtin "BaseException.__getattribute__" == Value.builtin "object.__getattribute__") = true then _ else _) _ _ _
  rw [hx1, if_neg Bool.false_ne_true]
  unfold getAttrByItsOwn hookBefore
  refine wpAny_bind ?_
  rw [if_pos (show onTheHeap (Value.ref D) = true from rfl)]
  refine L2.at (wpAny_bind (wpAny_attempt (wpAny_holding ?_)))
  unfold callGetattribute
  rw [hx0, if_neg Bool.false_ne_true]
  unfold boundAndCalled
  rw [PySem.F.excAttr_ValueError.ga.bind (.ref x)]
  refine wpAny_bind (wpAny_pure ?_)
  show wpAny _ _ (call (.builtin "BaseException.__getattribute__") [.ref x, .str "__class__" t]) _ _ _
  refine wpAny_call (codeAny_call_builtin PySem.F.excAttr_ValueError.ga.plain PySem.F.entry_bexc_ga ?_)
  refine @check_slot (model prog w) _ _ ⟨hp, g, d, t + 1, os⟩ "BaseException.__getattribute__" "BaseException" "__getattribute__" (.ref x) [.str "__class__" t] [] _
    (by decide +kernel) (by decide +kernel) sub (PySem.F.args_bexc_ga (.ref x) (.str "__class__" t)) ?_
  unfold Builtin.«object.__getattribute__»
  refine wpAny_bind (wpAny_of_eq (a := ((Value.ref x : Value), [Value.str "__class__" t])) (by first | rfl | (simp only [slotArgs]; rfl)) ?_)
  refine wpAny_bind (wpAny_pure (wpAny_bind (L0.at (wpAny_bind (L3.at ?_)))))
  show wpAny _ _ (holding [Value.builtin "object.__class__"] (call (.builtin "getset_descriptor.__get__") [.builtin "object.__class__", .ref x, .ref D]) >>= ret) _ _ _
  refine wpAny_bind (wpAny_holding (wpAny_call (class_get (s := ⟨hp, g, d, t + 1, os⟩) (ox := ox) (od := od) X I T.mr ?_)))
  refine wpAny_pure ?_
  show wpAny _ _ (handedOut (.ref D)) _ _ _
  rw [handedOut_of (v := .ref D) rfl]
  first
    | exact wpAny_pure (wpAny_pure h)
    | exact wpAny_pure h
    | exact wpAny_pure (wpAny_bind (wpAny_pure (wpAny_pure h)))

theorem exc_kit (T : XcI K D) : KitX K (.ref x) (.ref D) (fun h => ∃ ox od, InstAt h x ox D od) where
  ty := fun _ _ _ ⟨_, _, I⟩ => I.type
  it := fun _ _ X _ => by
    obtain ⟨cdD, hcD, _⟩ := any_some T.hd
    unfold clsIn at hcD
    split at hcD
    · rename_i c' d' cd' sl' ho
      intro A' Q' E' s' k q
      unfold isType loadHead
      exact wpAny_bind (wpAny_loadPart (k _ _ (X _ _ ho)) (wpAny_pure q))
    · cases hcD
  ne := fun h tp dd its n sl X htp => by
    obtain ⟨cdD, hcD, _⟩ := any_some T.hd
    refine Bool.eq_false_iff.mpr fun q => ?_
    have e : D = tp := Value.ref.inj (beq_iff_eq.mp q)
    subst e
    unfold clsIn at hcD
    split at hcD
    · rename_i c' d' cd' sl' ho
      have z := (X _ _ ho).symm.trans htp
      cases z
    · cases hcD
  ca := fun X ⟨_, _, I⟩ k => class_read T X I k
end
end Bw

namespace Bw
open PySem PySem.Spec PyProof.Rows L2

/-- an exception of the class at C stands at a, with these fields -/
def ExAt (H : Hp) (a C : Addr) (fs : List (Str × V)) : Prop :=
  (fs = [] ∧ H a = some (exo a C none)) ∨ ∃ d, d ≠ a ∧ H a = some (exo a C (some d)) ∧ H d = some (exd d fs)

section
variable {X : Cx} {pins : List (Addr × Obj)} {σ : L2.St} {H : Hp} {s : Shared}
theorem ExAt.inst {a C : Addr} {fs : List (Str × V)} (I : Inv X pins σ H s) (h : ExAt H a C fs) : ∃ ox od, PySem.W.InstAt s.heap a ox C od := by
  rcases h with ⟨_, e⟩ | ⟨d, _, e, ed⟩
  · obtain ⟨t1, ho⟩ := exo_at I.hok e
    exact ⟨_, none, ho, rfl, rfl, trivial⟩
  · obtain ⟨t1, ho⟩ := exo_at I.hok e
    obtain ⟨mA, ⟨o, _, _, hd, _⟩, _⟩ := exd_at I.hok ed
    exact ⟨_, some o, ho, rfl, rfl, hd⟩

/-- isinstance(e, c), e an exception of an own class -/
def rIsX (K : PySem.W.Frag) : List V → Hp → VK → Prop := fun xs H Q => ∃ (a C : Addr) (fs : List (Str × V)) (c : V) (cv : Value) (b : Bool), xs = [.ref a, c] ∧
  (∀ u, RelV c u → u = cv) ∧ XcI K C ∧ ExAt H a C fs ∧ PySem.W.kitOne K (.ref C) cv = some b ∧ Q (.bl b) H
theorem call_isX : CallR X (.builtin "isinstance") (rIsX X.K) := by
  intro pins s σ H xs us Q I r h
  obtain ⟨a, C, fs, c, cv, b, rfl, hcv, T, hx, e, q⟩ := h
  obtain ⟨u1, u2, rfl, r1, r2⟩ := Vals.two r
  obtain rfl : u1 = Value.ref a := r1
  have ec := hcv _ r2
  subst ec
  exact PySem.W.kia_one (exc_kit T) I.kIn (hx.inst I) e (fun z => nomatch z) fun tk => ⟨.bl b, H, I.kept (t' := tk) fun _ _ z => z, rfl, q⟩

/-- e.f, e an exception with the field f -/
def tExf (K : PySem.W.Frag) (f : Str) (te : TE) : TE := fun σ H Q => te σ H fun x H1 => ∃ (a C d : Addr) (fs : List (Str × V)) (v : V), x = .ref a ∧ XcI K C ∧
  PySem.W.findIn K (.ref C) f = some none ∧ H1 a = some (exo a C (some d)) ∧ H1 d = some (exd d fs) ∧ fs.lookup f = some v ∧ Q v H1
theorem pe_exf {e : Expr} {f : Str} {te : TE} {pos : Pos} (he : PE X e te) (hb : attributeBase e f X.env (eval e X.env) = eval e X.env := by rfl) :
    PE X (.Attribute e f pos) (tExf X.K f te) := by
  refine ⟨fun pins s σ H Q I h => ?_⟩
  refine L2.attr_of hb (thn (he.run pins s σ H _ I h) fun u s1 hh => ?_)
  obtain ⟨x, H1, I1, rx, a, C, d, fs, v, ex, T, hno, ea, ed, l, q⟩ := hh
  subst ex
  obtain rfl : u = Value.ref a := rx
  obtain ⟨t1, ho⟩ := exo_at I1.hok ea
  obtain ⟨mA, hns, hr⟩ := exd_at I1.hok ed
  obtain ⟨od, hod, hl⟩ := lookIn_ns hns
  obtain ⟨u, hu, ru⟩ := RelO.some_of (v := v) (o := mA f) (by rw [← l]; exact hr f)
  have J : PySem.W.InstAt s1.heap a _ C (some od) := ⟨ho, rfl, rfl, hod⟩
  exact PySem.HandSPX.exc_get I1.kIn J T.ga T.gt T.sub (PySem.W.findObj_own T.hd hno rfl (by rw [hl, hu])) (handed_of ru) ⟨v, H1, I1.tok _, ru, q⟩
end
end Bw
/-! Part 4. New exceptions of own classes as values: by position, by keywords, of nothing. -/
namespace Bw
open PySem PySem.Spec PyProof.Rows L2

/-- how one self and keywords bind -/
def SelfKw (K : PySem.W.Frag) (fd : FuncData) (ps ks : List Str) (g : {α : Type} → List α → List α) : Prop :=
  ∀ (s : Shared) (a : Value) (ws : List Value), K.In s.heap → ws.length = ks.length → BindsTo s fd ⟨[a], ks.zip ws⟩ (ps.zip (a :: g ws))

/-- C(e, ..) | C(k = e, ..): a new exception, then its own __init__ -/
def tNew (C : Addr) (sp : Sp) (g : {α : Type} → List α → List α) (n : Nat) (ta : TA) : TE := fun σ H Q => ta σ H fun vs H1 => vs.length = n ∧
  ∀ a, H1 a = none → sp (.ref a :: g vs) (upd H1 a (exo a C none)) (fun v H2 => v = .non ∧ Q (.ref a) H2) E0

section
variable {X : Cx} {C fI : Addr} {k : Nat} {fd : FuncData} {ps : List Str} {sp : Sp} {x : Str} {p pos : Pos} {e : Expr} {es : List Expr} {ta : TA}

/-- behind the own __init__ -/
theorem new_end {pins : List (Addr × Obj)} {σ : L2.St} {H1 : Hp} {Q : VK} {a : Addr} {r : Result} {s' : Shared}
    {s2 : Shared} (I2 : Inv X pins σ H1 s2) (h : CR CX0 X.stack X.prog X.w H1 s2 (fun v H2 => v = .non ∧ Q (.ref a) H2) E0 r s') :
    PySem.W.InitBack a (callEnd (EP X pins σ Q) X.xe) r s' := by
  match r, h with
  | .error _, h => exact False.elim h
  | .ok .next, h => exact False.elim h
  | .ok .brk, h => exact False.elim h
  | .ok .cont, h => exact False.elim h
  | .ok (.ret u), h =>
    obtain ⟨v, H', I3, rv, ev, q3⟩ := I2.after h
    subst ev
    exact ⟨rv, ⟨V.ref a, H', I3, rfl, q3⟩⟩

/-- what stands when the new exception is handed to its __init__ -/
theorem new_start {pins : List (Addr × Obj)} {σ : L2.St} {H1 : Hp} {hp : Heap} {g : Array GenState} {dr : Drawn} {tk : Nat} {os : OsState} {us : List Value}
    (I1 : Inv X pins σ H1 ⟨hp, g, dr, tk, os⟩) : Inv X pins σ (upd H1 (hp.objs.size + 1) (exo (hp.objs.size + 1) C none))
      ⟨(hp.push (PySem.W.kdv_tup us)).push (PySem.HandSPX.excO C hp.objs.size), g, dr, tk, os⟩ := by
  have hget : ((hp.push (PySem.W.kdv_tup us)).push (PySem.HandSPX.excO C hp.objs.size)).get? (hp.objs.size + 1) = some (PySem.HandSPX.excO C hp.objs.size) := by heap_get
  exact I1.laid (t' := tk) (fun b o e => Heap.get?_push_of_some _ (Heap.get?_push_of_some _ e)) (Nat.le_succ _) (exo_ok hget)

theorem pe_newP (T : OexC X.K C) (iC : PySem.W.findIn X.K (.ref C) "__init__" = some (some (.ref fI))) (tI : PySem.W.typeIn X.K (.ref fI) = some (.type "function"))
    (G : FnOk X.prog X.w X.K X.mg X.base CX0 k fI fd ps sp) (hr : Room (k + 1) X.A) (hb : Binds X.K fd ps []) (hg : Gl X x) (hm : X.mg x = some (.ref C)) (ha : PA X (e :: es) ta)
    (hn : (e :: es).length ≤ 100 := by decide)
    (hdb : (x == ("__debug__" : Str)) = false := by decide) (he : starEach (e :: es) X.env = (false, eval e X.env) :: starEach es X.env := by rfl)
    (hpl : (backTo pos (starEach es X.env)).any (·.1) = false := by rfl) :
    PE X (.Call (.Name x p) (e :: es) [] pos) (tNew C sp (fun l => l) (e :: es).length ta) := by
  refine ⟨fun pins s σ H Q I h => wpAny_Call_Name_kw (ld_glob I hg hm ?_ hdb)⟩
  refine PySem.W.callWith_K (h₀ := X.base) I.ok.mod.kin T.kC
    (thn (ha.run pos pins s σ H _ I h) fun us s1 ⟨vs, H1, I1, r1, hz, q1⟩ => ⟨I1.kIn, ?_⟩) he hpl
  show wpAny _ _ (call (.ref C) us) _ _ _
  obtain ⟨nm, q, N, bs, bm, sn, sub, ab, col, dd, k0, k1, k2, k3, k5, hC, hbm⟩ := T.cls
  obtain ⟨hp, g, dr, tk, os⟩ := s1
  have hq := q1 (hp.objs.size + 1) (I1.hok.fresh (Nat.le_succ _))
  have I2 := new_start (C := C) (us := us) I1
  have r2 : Vals (V.ref (hp.objs.size + 1) :: vs) (Value.ref (hp.objs.size + 1) :: us) := .cons rfl r1
  have hl : (Value.ref (hp.objs.size + 1) :: us ++ []).length = ps.length := by
    rw [List.append_nil, ← r2.length]
    exact G.len _ _ _ _ hq
  have hus : us.length ≤ sizeLine := by
    rw [← Paired.length r1, hz, sizeLine_eq]
    omega
  have hb' := hb ⟨(hp.push (PySem.W.kdv_tup us)).push (PySem.HandSPX.excO C hp.objs.size), g, dr, tk, os⟩ (Value.ref (hp.objs.size + 1) :: us) I2.kIn hl
  rw [List.append_nil] at hb'
  refine wpAny_call (PySem.HandSPX.call_own PySem.F.excBase_ValueError (fun Y => PySem.HandSPX.refsVE_contains Y bm hbm) (I1.kIn _ _ hC) (PySem.W.looks_findIn I1.kIn iC)
    (fun self => PySem.W.bind_fn I1.kIn self tI) hus ?_)
  exact codeAny_mono (G.run _ X.stack _ _ _ _ _ _ E0 (hr.make C us []) (I2.env0.make C us []) hb' r2 hq)
    fun r s' z => new_end I2 z

theorem pe_newK {kws : List Keyword} {ks : List Str} {g : {α : Type} → List α → List α} (T : OexC X.K C)
    (iC : PySem.W.findIn X.K (.ref C) "__init__" = some (some (.ref fI))) (tI : PySem.W.typeIn X.K (.ref fI) = some (.type "function"))
    (G : FnOk X.prog X.w X.K X.mg X.base CX0 k fI fd ps sp) (hr : Room (k + 1) X.A) (hb : SelfKw X.K fd ps ks g)
    (rel : ∀ {vs : List V} {us : List Value}, Vals vs us → Vals (g vs) (g us))
    (hg : Gl X x) (hm : X.mg x = some (.ref C)) (ha : PK X kws ta)
    (hall : (backToKw pos (keywordEach kws X.env)).all (·.1.isSome) = true := by rfl)
    (hks : (backToKw pos (keywordEach kws X.env)).filterMap (·.1) = ks := by rfl) (hdb : (x == ("__debug__" : Str)) = false := by decide)
    (hpl : ((backTo pos (starEach [] X.env)).any (·.1) || (backToKw pos (keywordEach kws X.env)).any (·.1.isNone)) = false := by rfl) :
    PE X (.Call (.Name x p) [] kws pos) (tNew C sp g ks.length ta) := by
  refine ⟨fun pins s σ H Q I h => wpAny_Call_Name_kw (ld_glob I hg hm ?_ hdb)⟩
  refine PySem.W.callWith_KW0 (h₀ := X.base) I.ok.mod.kin T.kC hall ?_ hpl
  refine thn (ha.run pos pins s σ H _ I h) fun us s1 ⟨vs, H1, I1, r1, hz, q1⟩ => ⟨I1.kIn, ?_⟩
  rw [hks]
  show wpAny _ _ (call (.ref C) [] (ks.zip us)) _ _ _
  obtain ⟨nm, q, N, bs, bm, sn, sub, ab, col, dd, k0, k1, k2, k3, k5, hC, hbm⟩ := T.cls
  obtain ⟨hp, gs, dr, tk, os⟩ := s1
  have hq := q1 (hp.objs.size + 1) (I1.hok.fresh (Nat.le_succ _))
  have I2 := new_start (C := C) (us := []) I1
  have r2 : Vals (V.ref (hp.objs.size + 1) :: g vs) (Value.ref (hp.objs.size + 1) :: g us) := .cons rfl (rel r1)
  refine wpAny_call (callK_own PySem.F.excBase_ValueError (fun Y => PySem.HandSPX.refsVE_contains Y bm hbm) (I1.kIn _ _ hC) (PySem.W.looks_findIn I1.kIn iC)
    (fun self => PySem.W.bind_fn I1.kIn self tI) ?_)
  exact codeAny_mono (G.run _ X.stack _ _ _ _ _ _ E0 (hr.make C [] (ks.zip us)) (I2.env0.make C [] (ks.zip us)) (hb _ _ us I2.kIn (r1.length.symm.trans hz)) r2 hq)
    fun r s' z => new_end I2 z

/-- C(), of an own class without an own __init__ -/
def tNew0 (C : Addr) : TE := fun _ H Q => ∀ a, H a = none → Q (.ref a) (upd H a (exo a C none))
theorem pe_new0 {bmB : List Value} {B newId initId : String} (F : ExcBaseFacts B newId initId bmB) (q : PySem.W.excIn X.K C bmB newId = true) (gC : X.mg x = some (.ref C))
    (kC : PySem.W.keepIn X.K (.ref C) = true) (hg : Gl X x) (hdb : (x == ("__debug__" : Str)) = false := by decide) :
    PE X (.Call (.Name x p) [] [] pos) (tNew0 C) := by
  refine ⟨fun pins s σ H Q I h => wpAny_Call_Name_kw (ld_glob I hg gC ?_ hdb)⟩
  refine PySem.W.callWith_K0 I.kIn kC ?_
  show wpAny _ _ (call (.ref C) []) _ _ _
  obtain ⟨bm, N, nm, qn, bs, hdct, sn, sub, ab, col, dd, k0, k1, k2, k3, k5, mN, hC, hN, hni, T⟩ := exc_obj I.kIn q
  refine wpAny_call_exc_subT F T hC hN hni (fun h' a hm => ?_) (by show 0 ≤ sizeLine; exact Nat.zero_le _)
  have hn : H a = none := I.hok.gone hm.new
  obtain ⟨t, ht, _, _⟩ := hm.there
  exact ⟨.ref a, _, I.laidN hm.keeps hm.new hn (exo_ok ht), rfl, h a hn⟩
end
end Bw
/-! The well of drawn numbers: what the law draws from. -/
namespace Kx
open PySem PySem.Spec PyProof.Rows L2 Bw

def topS (i : Nat) : Stmt := PySem.Challenge.pw_backwalks_k01_errors_each_of_its_own.main.body.getD i (.Pass ⟨0, 0, 0, 0⟩)

/-- the built-ins that the text calls are still those -/
structure Mb (mg : Str → Option Value) : Prop where
  int : mg "int" = none
  len : mg "len" = none
  abs : mg "abs" = none
  divmod : mg "divmod" = none
  range : mg "range" = none
  enumerate : mg "enumerate" = none
  isinstance : mg "isinstance" = none
  repr : mg "repr" = none

/-- a def as it stands behind the top, with its promise -/
structure Df (P : Program) (w : World) (K : PySem.W.Frag) (mg : Str → Option Value) (base : Heap) (k : Nat) (x : Str) (ps : List Str) (sp : Sp) where
  f : Addr
  fd : FuncData
  g : mg x = some (.ref f)
  kp : PySem.W.keepIn K (.ref f) = true
  b : Binds K fd ps []
  G : FnOk P w K mg base CX0 k f fd ps sp

abbrev s_law_well : Stmt := topS 30
abbrev n_law_well : List Str := ["script", "salt", "stir", "cell"]
theorem c_law_well : FnScope n_law_well ["script", "salt"] (defScope s_law_well) :=
  ⟨rfl, rfl, rfl, by decide +kernel, rfl, by decide +kernel, by decide +kernel⟩

abbrev s_law_pick : Stmt := topS 31
abbrev n_law_pick : List Str := ["well", "limit", "rest", "digit"]
theorem c_law_pick : FnScope n_law_pick ["well", "limit"] (defScope s_law_pick) :=
  ⟨rfl, rfl, rfl, by decide +kernel, rfl, by decide +kernel, by decide +kernel⟩

abbrev s_law_of : Stmt := topS 32
abbrev n_law_of : List Str := ["well", "some"]
theorem c_law_of : FnScope n_law_of ["well", "some"] (defScope s_law_of) :=
  ⟨rfl, rfl, rfl, by decide +kernel, rfl, by decide +kernel, by decide +kernel⟩


theorem sz63 {n : Nat} (h : n ≤ 1000) : n ≤ sizeLine := Nat.le_trans h (by decide)
theorem sz63' {n : Nat} (h : n ≤ 1000) : n < sizeLine := Nat.lt_of_le_of_lt h (by decide)

/-- the well at w -/
def IsWell (w : Addr) (H : Hp) : Prop := ∃ (l : Addr) (st n : Int) (ns : List Int), H w = some (.lst [.ref l, .int st, .int n]) ∧ l ≠ w ∧
  H l = some (.lst (ns.map V.int)) ∧ ns.length ≤ 63
abbrev At (w : Addr) : Addr → Prop := fun a => a = w

section
variable {P : Program} {w : World} {K : PySem.W.Frag} {mg : Str → Option Value} {base : Heap}

def spWell (K : PySem.W.Frag) : Sp := fun vs H Q _ => ∃ (a : Addr) (ns : List Int) (salt : Int), vs = [.ref a, .int salt] ∧ SqL K H a (ns.map V.int) ∧ ns.length ≤ 63 ∧
  ∀ (H' : Hp) (w : Addr), H w = none → Same H H' → IsWell w H' → Q (.ref w) H'
theorem cut63 {ns : List Int} (h : ns.length ≤ 63) : cutV (ns.map V.int) none (some 63) = ns.map V.int := by
  unfold cutV
  rw [HT.sIx_none, show HT.sIx (ns.map V.int).length (ns.map V.int).length (some 63) = min 63 (ns.map V.int).length from HT.sIx_nat _ _ 63]
  rw [List.drop_zero, Nat.sub_zero, List.length_map]
  exact List.take_of_length_le (by rw [List.length_map]; omega)
theorem map_at {ns : List Int} {i : Nat} {x : V} (h : (ns.map V.int)[i]? = some x) : ∃ z, ns[i]? = some z ∧ x = .int z := by
  rw [List.getElem?_map] at h
  cases e : ns[i]? with
  | none =>
    rw [e] at h
    cases h
  | some z =>
    rw [e] at h
    exact ⟨z, rfl, (Option.some.inj h).symm⟩
theorem same_new {H : Hp} {p : Addr} {o : HO} (h : H p = none) : Same H (upd H p o) := fun b x e => by
  rw [upd_ne (ne_of_none e h)]
  exact e
theorem same_mut {H H' : Hp} {p : Addr} {o : HO} (s : Same H H') (h : H p = none) : Same H (upd H' p o) := fun b x e => by
  rw [upd_ne (ne_of_none e h)]
  exact s b x e

theorem ok_well {f : Addr} {fd : FuncData} (F : Fun K "_law_well" "_law_well" s_law_well f fd) (M : Mb mg) : FnOk P w K mg base CX0 1 f fd ["script", "salt"] (spWell K) := by
  refine F.ok c_law_well (fun vs H Q E h => ?_) (fun cdv A outer s H vs Q E hr h => ?_)
  · obtain ⟨a, ns, salt, rfl, _⟩ := h
    rfl
  · obtain ⟨a, ns, salt, rfl, hS, hlen, q⟩ := h
    refine ⟨_, (pss_cons (ps_set (i := 2) c_law_well.nd rfl (.inl rfl) (pe_op op_add pe_int (pe_op op_mul pe_int (pv 1))))
 (pss_cons (ps_for PassesOwn.never rfl (pi_list (pe_slice sl_list (pv 0) po_none (po_some pe_int))) (pg_name (i := 3) c_law_well.nd rfl (.inl rfl))
 (pss_one (ps_set (i := 2) c_law_well.nd rfl (.inl rfl) (pe_op op_mod (pe_callTy call_int1 (by rfl) M.int (by decide +kernel) (pa_cons (pe_op op_add (pe_op op_add (pe_op op_mul (pv 2) pe_int) (pe_op op_mul (pe_op op_mod (pe_callTy call_int1 (by rfl) M.int (by decide +kernel) (pa_cons (pv 3) pa_nil)) pe_int) pe_int)) pe_int) pa_nil)) pe_int))))
 (pss_one (ps_ret (pe_lst (pa_cons (pe_lc (own := [("cell", 3)]) rfl c_law_well.nd (pi_list (pe_slice sl_list (pv 0) po_none (po_some pe_int))) (blkOk_by (own := [("cell", 3)]) (N := n_law_well) (sc := defScope s_law_well) (by decide +kernel)) (fun _ _ _ _ _ => (pg_name (i := 3) c_law_well.nd rfl (.inl rfl))) (fun _ _ _ _ _ => (pts_one (PW.pt (pw_or (pt_cmpR op_lt (pv 3) pe_int (nomark _)) (pw_or1 (pt_cmpR op_ge (pv 3) (pe_op op_pow pe_int pe_int) (nomark _))))))) (fun _ _ _ _ _ => (pe_callB call_abs (by rfl) M.abs (by decide +kernel) (pa_cons (pv 3) pa_nil)))) (pa_cons (pv 2) (pa_cons pe_int pa_nil)))))))), ?_⟩
    refine ⟨_, rfl, _, _, rfl, rfl, .inl ⟨by decide, by decide⟩, _, _, rfl, rfl, ?_⟩
    -- for cell in script[:63]
    refine ⟨.ref a, rfl, 63, rfl, a, _, rfl, hS, fun c nc => ?_⟩
    rw [cut63 hlen]
    have s1 : Same H (upd H c (.lst (ns.map V.int))) := same_new nc
    refine ⟨c, rfl, ⟨_, .inl (.inl upd_same)⟩, for_list (K := K) (a := c) (xs := ns.map V.int)
      (fun i σ H' => ∃ (z : Int) (y : Option V), σ = [some (.ref a), some (.int salt), some (.int z), y] ∧ H' = upd H c (.lst (ns.map V.int)))
      ⟨_, none, rfl, rfl⟩ (fun i σ H' _ ⟨_, _, _, e⟩ => .inl (.inl (by rw [e]; exact upd_same))) ?_ ?_⟩
    · rintro i y σ H' hi ⟨z, y0, rfl, rfl⟩
      obtain ⟨x, hx, rfl⟩ := map_at hi
      refine ⟨_, rfl, _, _, rfl, rfl, .inr ⟨by decide, by decide⟩, ?_⟩
      refine ⟨_, rfl, .inl ⟨_, rfl, ?_⟩⟩
      refine ⟨_, _, rfl, rfl, (by show (0 : Int) < 2147483587; decide), ?_⟩
      refine ⟨_, _, rfl, rfl, .inr ⟨by decide, by decide⟩, ?_⟩
      refine ⟨_, _, rfl, rfl, _, _, rfl, rfl, .inl ⟨_, rfl, ?_⟩⟩
      exact ⟨_, _, rfl, rfl, (by show (0 : Int) < 2147483647; decide), _, _, rfl, rfl⟩
    · rintro σ H' ⟨z, y0, rfl, rfl⟩
      -- [[abs(cell) ..], stir, 0]
      refine ⟨.ref a, rfl, 63, rfl, a, _, rfl, s1.seq hS, fun c2 nc2 => ?_⟩
      rw [cut63 hlen]
      have s2 := s1.trans (same_new (o := .lst (ns.map V.int)) nc2)
      refine ⟨c2, rfl, ⟨_, .inl (.inl upd_same)⟩, fun D nD => ?_⟩
      refine lc_list (K := K) (a := c2) (xs := ns.map V.int)
        (fun i H' => ∃ ms : List Int, ms.length ≤ i ∧ H' D = some (.lst (ms.map V.int)) ∧ Same H H' ∧ H' c2 = some (.lst (ns.map V.int)))
        ⟨[], Nat.le_refl _, upd_same, s2.trans (same_new nD), ?_⟩ (fun i H' _ ⟨_, _, _, _, e⟩ => .inl (.inl e)) ?_ ?_
      · rw [upd_ne (ne_of_none upd_same nD)]
        exact upd_same
      · rintro i x H' hi ⟨ms, hm, eD, sm, e2⟩
        have hil : i < ns.length := by
          have := (List.getElem?_eq_some_iff.mp hi).1
          rwa [List.length_map] at this
        obtain ⟨x, hx, rfl⟩ := map_at hi
        refine ⟨rfl, ?_⟩
        have keepD : ∀ {y : V} {H1 : Hp}, H1 = H' → (∃ m, y = V.int m) → ∃ acc, H1 D = some (.lst acc) ∧ acc.length < sizeLine ∧
            ∃ ms : List Int, ms.length ≤ i + 1 ∧ (upd H1 D (.lst (acc ++ [y]))) D = some (.lst (ms.map V.int)) ∧ Same H (upd H1 D (.lst (acc ++ [y]))) ∧
              (upd H1 D (.lst (acc ++ [y]))) c2 = some (.lst (ns.map V.int)) := by
          rintro y H1 rfl ⟨m, rfl⟩
          refine ⟨_, eD, sz63' (by rw [List.length_map]; omega), ms ++ [m], by rw [List.length_append, List.length_singleton]; omega, ?_, ?_, ?_⟩
          · rw [upd_same, List.map_append]
            rfl
          · exact same_mut sm ((s2.free nD))
          · rw [upd_ne (ne_of_none upd_same nD)]
            exact e2
        have stay : ∃ ms : List Int, ms.length ≤ i + 1 ∧ H' D = some (.lst (ms.map V.int)) ∧ Same H H' ∧ H' c2 = some (.lst (ns.map V.int)) := ⟨ms, by omega, eD, sm, e2⟩
        refine ⟨_, rfl, _, _, rfl, rfl, _, rfl, ite2 (fun _ => ?_) (fun _ => ?_)⟩
        · refine iteT ?_
          exact ⟨_, rfl, _, rfl, keepD rfl ⟨_, rfl⟩⟩
        · refine ⟨_, rfl, _, _, rfl, rfl, ⟨by decide, by decide, by decide⟩, _, _, rfl, rfl, _, rfl, ite2 (fun _ => ?_) (fun _ => ?_)⟩
          · exact ⟨_, rfl, _, rfl, keepD rfl ⟨_, rfl⟩⟩
          · exact stay
      · rintro H' ⟨ms, hm, eD, sm, _⟩
        rw [List.length_map] at hm
        refine ⟨_, rfl, sz63 (by show 3 ≤ 1000; decide), fun v nv => ?_⟩
        have nDv : D ≠ v := ne_of_none eD nv
        refine q _ v (sm.free nv) (sm.trans (same_new nv)) ⟨D, _, _, ms, upd_same, nDv, ?_, by omega⟩
        rw [upd_ne nDv]
        exact eD

/-! ### a number is drawn -/
def spPick : Sp := fun vs H Q _ => ∃ (w : Addr) (limit : Int), vs = [.ref w, .int limit] ∧ 0 < limit ∧ limit < 1073741824 ∧ IsWell w H ∧
  ∀ (H' : Hp) (d : Int), 0 ≤ d → d < limit → Kp (At w) H H' → IsWell w H' → Q (.int d) H'
theorem ints_lay : ∀ ns : List Int, PyData.canLayAll0 (ns.map PyData.int) = true
  | [] => by simp [PyData.canLayAll0]
  | n :: r => by simp [PyData.canLayAll0, PyData.canLay0, ints_lay r]
theorem ints_depth : ∀ ns : List Int, PyData.depthAll (ns.map PyData.int) = 0
  | [] => by simp [PyData.depthAll]
  | n :: r => by simp [PyData.depthAll, PyData.depth, ints_depth r]
theorem ints_shaped (ns : List Int) : SeqAt.shaped (.list (ns.map PyData.int)) = true := by
  unfold SeqAt.shaped
  have h1 : (PyData.list (ns.map PyData.int)).canLay0 = true := by
    simp only [PyData.canLay0]
    exact ints_lay ns
  have h2 : (PyData.list (ns.map PyData.int)).depth ≤ 64 := by
    simp only [PyData.depth]
    rw [ints_depth]
    omega
  rw [h1, decide_eq_true h2]
  rfl
theorem ints_dp {K : PySem.W.Frag} {H : Hp} : ∀ ns : List Int, DpAll K H (ns.map V.int) (ns.map PyData.int)
  | [] => .nil
  | n :: r => .cons (.int n) (ints_dp r)
theorem ints_nil (ns : List Int) : PyData.eqv (.list (ns.map PyData.int)) (.list []) = ns.isEmpty := by
  cases ns with
  | nil => decide +kernel
  | cons n r => simp [PyData.eqv, PyData.eqvAll]
theorem cutTail {n : Int} {ns : List Int} : cutV ((n :: ns).map V.int) (some 1) none = ns.map V.int := by
  unfold cutV
  rw [show HT.sIx ((n :: ns).map V.int).length 0 (some 1) = min 1 ((n :: ns).map V.int).length from HT.sIx_nat _ _ 1, HT.sIx_none]
  have e : min 1 ((n :: ns).map V.int).length = 1 := by
    rw [List.length_map, List.length_cons]
    omega
  rw [e]
  show List.take (((n :: ns).map V.int).length - 1) (ns.map V.int) = _
  exact List.take_of_length_le (by rw [List.length_map, List.length_map, List.length_cons]; omega)

theorem kp_new {w : Addr} {H : Hp} {p : Addr} {o : HO} (h : H p = none) : Kp (At w) H (upd H p o) := Kp.new h
theorem ok_pick {f : Addr} {fd : FuncData} (F : Fun K "_law_pick" "_law_pick" s_law_pick f fd) (M : Mb mg) : FnOk P w K mg base CX0 1 f fd ["well", "limit"] spPick := by
  refine F.ok c_law_pick (fun vs H Q E h => ?_) (fun cdv A outer s H vs Q E hr h => ?_)
  · obtain ⟨w, limit, rfl, _⟩ := h
    rfl
  · obtain ⟨w, limit, rfl, hl, hl2, ⟨l, st, n, ns, hw, hne, hL, hlen⟩, q⟩ := h
    have hu : (A.deeper (envOfC "_law_pick" (defScope s_law_pick) s.heap.objs.size f cdv)).units + 64 < cLine := hr.units
    refine ⟨_, (pss_cons (ps_if (pt_cmpR (op_neD hu) (pe_ix ix_list (pv 0) pe_int (fun _ _ => rfl)) (pe_lst pa_nil) (nomark _))
 (pss_cons (ps_asg (pe_callB call_divmodW (by rfl) M.divmod (by decide +kernel) (pa_cons (pe_ix ix_list (pe_ix ix_list (pv 0) pe_int (fun _ _ => rfl)) pe_int (fun _ _ => rfl)) (pa_cons (pv 1) pa_nil))) (pg_tup rfl (pgs_cons (pg_name (i := 2) c_law_pick.nd rfl (.inl rfl)) (pgs_cons (pg_name (i := 3) c_law_pick.nd rfl (.inl rfl)) pgs_nil))))
 (pss_cons (ps_asg (pe_op op_cat (pe_ifExp (pt_cmpR op_gt (pv 2) pe_int (nomark _)) (pe_lst (pa_cons (pv 2) pa_nil)) (pe_lst pa_nil)) (pe_slice sl_list (pe_ix ix_list (pv 0) pe_int (fun _ _ => rfl)) (po_some pe_int) po_none)) (pg_sub (pv 0) pe_int set_list))
 (pss_one (ps_ret (pv 3)))))
 pss_nil)
 (pss_cons (ps_asg (pe_op op_add (pe_ix ix_list (pv 0) pe_int (fun _ _ => rfl)) pe_int) (pg_sub (pv 0) pe_int set_list))
 (pss_cons (ps_asg (pe_op op_mod (pe_callTy call_int1 (by rfl) M.int (by decide +kernel) (pa_cons (pe_op op_add (pe_op op_add (pe_op op_mul (pe_ix ix_list (pv 0) pe_int (fun _ _ => rfl)) pe_int) (pe_op op_mul pe_int (pe_ix ix_list (pv 0) pe_int (fun _ _ => rfl)))) pe_int) pa_nil)) pe_int) (pg_sub (pv 0) pe_int set_list))
 (pss_one (ps_ret (pe_op op_mod (pe_callTy call_int1 (by rfl) M.int (by decide +kernel) (pa_cons (pe_op op_fdiv (pe_ix ix_list (pv 0) pe_int (fun _ _ => rfl)) pe_int) pa_nil)) (pv 1))))))), ?_⟩
    have a0 : ∀ {x y z : V}, atI [x, y, z] 0 = some x := fun {x y z} => rfl
    have a1 : ∀ {x y z : V}, atI [x, y, z] 1 = some y := fun {x y z} => rfl
    have a2 : ∀ {x y z : V}, atI [x, y, z] 2 = some z := fun {x y z} => rfl
    -- if well[0] != []
    refine ⟨_, rfl, w, _, 0, .ref l, rfl, rfl, .inl (.inl hw), a0, ?_⟩
    refine ⟨Nat.zero_le _, fun e ne => ?_⟩
    have hL1 : (upd H e (.lst [])) l = some (.lst (ns.map V.int)) := by
      rw [upd_ne (ne_of_none hL ne)]
      exact hL
    have hw1 : (upd H e (.lst [])) w = some (.lst [.ref l, .int st, .int n]) := by
      rw [upd_ne (ne_of_none hw ne)]
      exact hw
    have k1 : Kp (At w) H (upd H e (.lst [])) := kp_new ne
    refine ⟨.list (ns.map PyData.int), .list [], .lst (.inl (.inl hL1)) (ints_dp ns), .lst (.inl (.inl upd_same)) .nil, ints_shaped ns, ints_shaped [], _, rfl, ?_⟩
    rw [ints_nil]
    generalize upd H e (.lst []) = H1 at hL1 hw1 k1
    cases ns with
    | cons x r =>
      refine iteT ?_
      -- rest, digit = divmod(well[0][0], limit)
      refine ⟨_, rfl, w, _, 0, .ref l, rfl, rfl, .inl (.inl hw1), a0, l, _, 0, .int x, rfl, rfl, .inl (.inl hL1), atI_nat (j := 0) rfl, ?_⟩
      refine ⟨_, rfl, x, limit, rfl, ⟨hl, PyProof.noPylong_small (by omega)⟩, fun p np => ?_⟩
      have hL2 : (upd H1 p (.tup [.int (x / limit), .int (x % limit)])) l = some (.lst ((x :: r).map V.int)) := by
        rw [upd_ne (ne_of_none hL1 np)]
        exact hL1
      have hw2 : (upd H1 p (.tup [.int (x / limit), .int (x % limit)])) w = some (.lst [.ref l, .int st, .int n]) := by
        rw [upd_ne (ne_of_none hw1 np)]
        exact hw1
      have k2 : Kp (At w) H (upd H1 p (.tup [.int (x / limit), .int (x % limit)])) := k1.trans (kp_new np)
      refine ⟨p, _, rfl, .inl (.inl upd_same), rfl, _, _, rfl, _, _, rfl, rfl, ?_⟩
      generalize upd H1 p (.tup [.int (x / limit), .int (x % limit)]) = H2 at hL2 hw2 k2
      -- well[0] = ([rest] if rest > 0 else []) + well[0][1:]
      have tail : ∀ (ms : List Int) (b : Addr) (H3 : Hp), ms.length ≤ 1 → H3 b = some (.lst (ms.map V.int)) → H3 l = some (.lst ((x :: r).map V.int)) → H3 w = some (.lst [.ref l, .int st, .int n]) →
          Kp (At w) H H3 → ∃ v, ([some (.ref w), some (.int limit), some (.int (x / limit)), some (.int (x % limit))] : List (Option V))[0]? = some (some v) ∧
            rIxL K v (.int 0) H3 fun x1 H4 => tPart (tC (.int 1)) [some (.ref w), some (.int limit), some (.int (x / limit)), some (.int (x % limit))] H4 fun lo H5 =>
              tNoPart [some (.ref w), some (.int limit), some (.int (x / limit)), some (.int (x % limit))] H5 fun hi H6 =>
                rSlL K x1 lo hi H6 fun y H7 => rCat (.ref b) y H7 fun z H8 => gSub (tVar 0) (tC (.int 0)) rSetL z [some (.ref w), some (.int limit), some (.int (x / limit)), some (.int (x % limit))] H8 fun σ' H9 => ∃ v, σ'[3]? = some (some v) ∧ Q v H9 := by
        intro ms b H3 hms hb hL3 hw3 k3
        refine ⟨_, rfl, w, _, 0, .ref l, rfl, rfl, .inl (.inl hw3), a0, 1, rfl, l, _, rfl, .inl (.inl hL3), fun c nc => ?_⟩
        rw [cutTail]
        have hb4 : (upd H3 c (.lst (r.map V.int))) b = some (.lst (ms.map V.int)) := by
          rw [upd_ne (ne_of_none hb nc)]
          exact hb
        have hw4 : (upd H3 c (.lst (r.map V.int))) w = some (.lst [.ref l, .int st, .int n]) := by
          rw [upd_ne (ne_of_none hw3 nc)]
          exact hw3
        have k4 : Kp (At w) H (upd H3 c (.lst (r.map V.int))) := k3.trans (kp_new nc)
        rw [List.length_cons] at hlen
        refine ⟨b, c, _, _, rfl, rfl, hb4, upd_same, sz63 (by rw [List.length_map, List.length_map]; omega), fun m nm => ?_⟩
        have hw5 : (upd (upd H3 c (.lst (r.map V.int))) m (.lst (ms.map V.int ++ r.map V.int))) w = some (.lst [.ref l, .int st, .int n]) := by
          rw [upd_ne (ne_of_none hw4 nm)]
          exact hw4
        have hmw : m ≠ w := fun z => by
          rw [z, hw4] at nm
          cases nm
        refine ⟨_, rfl, w, _, 0, 0, rfl, rfl, hw5, rfl, _, rfl, ?_⟩
        refine q _ _ (Int.emod_nonneg _ (by omega)) (Int.emod_lt_of_pos _ hl) ((k4.trans (kp_new nm)).trans (Kp.mut rfl)) ⟨m, st, n, ms ++ r, upd_same, hmw, ?_, ?_⟩
        · rw [upd_ne hmw, upd_same, List.map_append]
        · rw [List.length_append]
          omega
      refine ⟨_, rfl, _, _, rfl, rfl, _, rfl, ite2 (fun _ => ?_) (fun _ => ?_)⟩
      · refine ⟨_, rfl, sz63 (by show 1 ≤ 1000; decide), fun b nb => ?_⟩
        exact tail [x / limit] b _ (Nat.le_refl _) upd_same (by rw [upd_ne (ne_of_none hL2 nb)]; exact hL2) (by rw [upd_ne (ne_of_none hw2 nb)]; exact hw2) (k2.trans (kp_new nb))
      · refine ⟨Nat.zero_le _, fun b nb => ?_⟩
        exact tail [] b _ (Nat.zero_le _) upd_same (by rw [upd_ne (ne_of_none hL2 nb)]; exact hL2) (by rw [upd_ne (ne_of_none hw2 nb)]; exact hw2) (k2.trans (kp_new nb))
    | nil =>
      refine iteF ?_
      -- well[2] = well[2] + 1
      refine ⟨_, rfl, w, _, 2, .int n, rfl, rfl, .inl (.inl hw1), a2, _, _, rfl, rfl, _, rfl, w, _, 2, 2, rfl, rfl, hw1, rfl, ?_⟩
      -- well[1] = ..
      refine ⟨_, rfl, w, _, 1, .int st, rfl, rfl, .inl (.inl upd_same), a1, _, _, rfl, rfl, .inr ⟨by decide, by decide⟩, ?_⟩
      refine ⟨_, rfl, w, _, 2, .int (n + 1), rfl, rfl, .inl (.inl upd_same), a2, _, _, rfl, rfl, .inl ⟨by decide, by decide⟩, ?_⟩
      refine ⟨_, _, rfl, rfl, _, _, rfl, rfl, .inl ⟨_, rfl, ?_⟩⟩
      refine ⟨_, _, rfl, rfl, (by show (0 : Int) < 2147483647; decide), _, rfl, w, _, 1, 1, rfl, rfl, upd_same, rfl, ?_⟩
      -- return int(well[1] // 1009) % limit
      refine ⟨_, rfl, w, _, 1, _, rfl, rfl, .inl (.inl upd_same), a1, _, _, rfl, rfl, ⟨by decide, by decide⟩, .inl ⟨_, rfl, ?_⟩⟩
      refine ⟨_, rfl, _, _, rfl, rfl, hl, ?_⟩
      refine q _ _ (Int.emod_nonneg _ (by omega)) (Int.emod_lt_of_pos _ hl) ((k1.trans (Kp.mut rfl)).trans (Kp.mut rfl)) ⟨l, _, _, [], upd_same, hne, ?_, Nat.zero_le _⟩
      rw [upd_ne hne, upd_ne hne]
      exact hL1

/-! ### one of some -/
def spOf (K : PySem.W.Frag) : Sp := fun vs H Q _ => ∃ (w a : Addr) (xs : List V), vs = [.ref w, .ref a] ∧ IsWell w H ∧ a ≠ w ∧ (SqL K H a xs ∨ SqT K H a xs) ∧ 0 < xs.length ∧ xs.length < 1073741824 ∧
  ∀ (H' : Hp) (i : Nat) (v : V), xs[i]? = some v → Kp (At w) H H' → IsWell w H' → Q v H'
theorem kp_l {w a : Addr} {H H' : Hp} {xs : List V} (k : Kp (At w) H H') (h : a ≠ w) (s : SqL K H a xs) : SqL K H' a xs := by
  rcases s with (e | ⟨o, e⟩) | e
  · exact .inl (.inl (k _ _ h e))
  · exact .inl (.inr ⟨o, k _ _ h e⟩)
  · exact .inr e
theorem kp_t {w a : Addr} {H H' : Hp} {xs : List V} (k : Kp (At w) H H') (h : a ≠ w) (s : SqT K H a xs) : SqT K H' a xs := by
  rcases s with (e | ⟨o, e⟩) | e
  · exact .inl (.inl (k _ _ h e))
  · exact .inl (.inr ⟨o, k _ _ h e⟩)
  · exact .inr e
theorem ok_of {f : Addr} {fd : FuncData} (F : Fun K "_law_of" "_law_of" s_law_of f fd) (M : Mb mg) (Dlaw_pick : Df P w K mg base 1 "_law_pick" ["well", "limit"] spPick) :
    FnOk P w K mg base CX0 2 f fd ["well", "some"] (spOf K) := by
  refine F.ok c_law_of (fun vs H Q E h => ?_) (fun cdv A outer s H vs Q E hr h => ?_)
  · obtain ⟨w, a, xs, rfl, _⟩ := h
    rfl
  · obtain ⟨w, a, xs, rfl, hW, ne, hx, h0, h1, q⟩ := h
    refine ⟨_, (pss_one (ps_ret (pe_ix ix_seq (pv 1) (pe_call Dlaw_pick.G (hr.mono (by decide)) rfl Dlaw_pick.g Dlaw_pick.kp Dlaw_pick.b .nil pass0 (pa_cons (pv 0) (pa_cons (pe_callB call_len_seq (by rfl) M.len (by decide +kernel) (pa_cons (pv 1) pa_nil)) pa_nil))) (fun _ _ => rfl)))), ?_⟩
    refine ⟨_, rfl, _, rfl, _, rfl, a, xs, rfl, hx, w, _, rfl, by omega, by omega, hW, fun H' d d0 d1 k hW' => ?_⟩
    obtain ⟨j, rfl⟩ : ∃ j : Nat, d = (j : Int) := ⟨d.toNat, by omega⟩
    have hd : j < xs.length := by omega
    have get : xs[j]? = some xs[j] := by simp [hd]
    have hat : atI xs (j : Int) = some xs[j] := atI_nat get
    rcases hx with hx | hx
    · exact .inl ⟨a, xs, _, _, rfl, rfl, kp_l k ne hx, hat, q H' _ _ get k hW'⟩
    · exact .inr (.inl ⟨a, xs, _, _, rfl, rfl, kp_t k ne hx, hat, q H' _ _ get k hW'⟩)
end
end Kx
/-! A thing of any kind. -/
namespace Kx
open PySem PySem.Spec PyProof.Rows L2 Bw

/-! ### what a display gives, as data: all of it new -/
abbrev Old (H : Hp) : Addr → Prop := fun a => H a ≠ none
theorem Old.same {H H' : Hp} (s : Same H H') : ∀ a, Old H a → Old H' a := fun a h z => by
  cases e : H a with
  | none => exact h e
  | some o =>
    rw [s a o e] at z
    cases z
def EvD (te : TE) (σ : L2.St) (d : PyData) : Prop := ∀ (H : Hp) (Q : VK), (∀ v H', Same H H' → Dq (Old H) H' v d → Q v H') → te σ H Q
def EvDs (ta : TA) (σ : L2.St) (ds : List PyData) : Prop := ∀ (H : Hp) (Q : List V → Hp → Prop), (∀ vs H', Same H H' → DqAll (Old H) H' vs ds → Q vs H') → ta σ H Q
section
variable {σ : L2.St}
theorem evd_non : EvD (tC .non) σ .none := fun H Q q => q _ H (.refl H) .non
theorem evd_bl {b : Bool} : EvD (tC (.bl b)) σ (.bool b) := fun H Q q => q _ H (.refl H) (.bl b)
theorem evd_int {i : Int} : EvD (tC (.int i)) σ (.int i) := fun H Q q => q _ H (.refl H) (.int i)
theorem evd_str {x : Str} : EvD (tC (.str x)) σ (.str x) := fun H Q q => q _ H (.refl H) (.str x)
theorem evd_neg {i : Int} : EvD (tUn (rU fun i => .int (-i)) (tC (.int i))) σ (.int (-i)) := fun H Q q => ⟨i, rfl, q _ H (.refl H) (.int (-i))⟩
theorem evd_var {j : Nat} {i : Int} (h : σ[j]? = some (some (.int i))) : EvD (tVar j) σ (.int i) := fun H Q q => ⟨_, h, q _ H (.refl H) (.int i)⟩
theorem evd_minus {j : Nat} {i : Int} (h : σ[j]? = some (some (.int i))) : EvD (tOp (rI0 fun i j => .int (i - j)) (tC (.int 0)) (tVar j)) σ (.int (0 - i)) :=
  fun H Q q => ⟨_, h, 0, i, rfl, rfl, q _ H (.refl H) (.int (0 - i))⟩
theorem evds_nil : EvDs tNil σ [] := fun H Q q => q _ H (.refl H) .nil
theorem evds_cons {te : TE} {ta : TA} {d : PyData} {ds : List PyData} (h : EvD te σ d) (t : EvDs ta σ ds) : EvDs (tCons te ta) σ (d :: ds) := fun H Q q =>
  h H _ fun v H1 s1 e1 => t H1 _ fun vs H2 s2 e2 => q _ H2 (s1.trans s2) (.cons (e1.keep (Kp.same s2)) (e2.weak (Old.same s1)))
theorem new_old {H H1 : Hp} {p : Addr} (s : Same H H1) (hp : H1 p = none) : ¬ Old H p := fun z => z (s.free hp)
theorem evd_tup {ta : TA} {ds : List PyData} (h : EvDs ta σ ds) (hl : ds.length ≤ 1000) : EvD (tTup ta) σ (.tuple ds) := fun H Q q =>
  h H _ fun vs H1 s1 e1 => ⟨sz63 (by rw [e1.length]; exact hl), fun p hp =>
    q _ _ (s1.trans (same_new hp)) (.tup (new_old s1 hp) upd_same (e1.keep (Kp.new hp)))⟩
theorem evd_lst {ta : TA} {ds : List PyData} (h : EvDs ta σ ds) (hl : ds.length ≤ 1000) : EvD (tLst ta) σ (.list ds) := fun H Q q =>
  h H _ fun vs H1 s1 e1 => ⟨sz63 (by rw [e1.length]; exact hl), fun p hp =>
    q _ _ (s1.trans (same_new hp)) (.lst (new_old s1 hp) upd_same (e1.keep (Kp.new hp)))⟩
theorem evd_dnew : EvD tDNewK σ (.dict []) := fun H Q q => fun p hp => q _ _ (same_new hp) (.dct (kvs := []) (fun z => z hp) upd_same .nil)
/-- {k: e}, one written key -/
theorem evd_dict1 {k : Key} {te : TE} {d : PyData} (h : EvD te σ d) : EvD (tDisp [(tC (kV k), te)]) σ (.dict [(keyD k, d)]) := fun H Q q => fun p hp => by
  refine h _ _ fun v H1 s1 e1 => ?_
  have ep : H1 p = some (.dK []) := s1 _ _ upd_same
  refine ⟨ep, [(k, v)], rfl, (by show 1 ≤ 15; decide), ?_⟩
  have s2 : Same H (upd H1 p (.dK [(k, v)])) := same_mut ((same_new hp).trans s1) hp
  refine q _ _ s2 (.dct (kvs := [(k, v)]) (fun z => z hp) upd_same (.cons ?_ .nil))
  have e2 : Dq (Old (upd H p (.dK []))) (upd H1 p (.dK [(k, v)])) v d := e1.keep (Kp.mut (by
    show upd H p (.dK []) p ≠ none
    rw [upd_same]
    exact fun z => nomatch z))
  exact e2.weak (Old.same (same_new hp))
end

/-! ### what things are like -/
/-- it is printed, within a hundred signs, and is at most four deep -/
def Small (d : PyData) : Prop := d.showable = true ∧ d.shown.length ≤ 100 ∧ d.depth ≤ 4
def great (j : Int) : Int := 10 ^ 20 + j
def things (j : Int) : List PyData := [.none, .bool true, .bool false, .int 0, .int 1, .int (-3), .int (great j), .int (0 - great j), .str "", .str "hall", .str "given", .str "a: b 1", .tuple [],
  .tuple [.int 0, .int 2, .int 1], .tuple [.tuple [.int 1, .int 3], .tuple [.int 0, .int 1]], .list [], .list [.int 2, .tuple [.none, .int 1]], .dict [],
  .dict [(.str "a", .tuple [.int 1, .int 2])], .tuple [.tuple [.str "hall"], .tuple []], .tuple [.none, .list []], .dict [(.int 0, .list [])]]
theorem small_int {i : Int} (h : i.natAbs < 10 ^ 21) : Small (.int i) := by
  refine ⟨?_, ?_, ?_⟩
  · simp only [PyData.showable]
    refine decide_eq_true ?_
    by_cases h0 : i.natAbs = 0
    · rw [h0]
      decide
    · exact (Nat.log2_lt h0).mpr (Nat.lt_of_lt_of_le h (by decide +kernel))
  · simp only [PyData.shown]
    have h1 := PySem.int_text_length_le10 (a := i) (k := 21) (by decide) h
    have h2 : (Str.ofString (toString i)).length = (toString i).length := PyProof.Rows.ofString_len _
    omega
  · simp only [PyData.depth]
    omega
theorem things_small {j : Int} (h0 : 0 ≤ j) (h1 : j < 1000003) : ∀ d ∈ things j, Small d := by
  have g : (great j).natAbs < 10 ^ 21 := by
    unfold great
    omega
  have g2 : (0 - great j).natAbs < 10 ^ 21 := by
    unfold great
    omega
  intro d hd
  unfold things at hd
  simp only [List.mem_cons, List.not_mem_nil, or_false] at hd
  rcases hd with rfl | rfl | rfl | rfl | rfl | rfl | rfl | rfl | rfl | rfl | rfl | rfl | rfl | rfl | rfl | rfl | rfl | rfl | rfl | rfl | rfl | rfl
  case inr.inr.inr.inr.inr.inr.inl => exact small_int g
  case inr.inr.inr.inr.inr.inr.inr.inl => exact small_int g2
  all_goals exact ⟨by decide +kernel, by decide +kernel, by decide +kernel⟩

abbrev s_law_thing : Stmt := topS 38
abbrev n_law_thing : List Str := ["well", "great"]
theorem c_law_thing : FnScope n_law_thing ["well"] (defScope s_law_thing) :=
  ⟨rfl, rfl, rfl, by decide +kernel, rfl, by decide +kernel, by decide +kernel⟩

section
variable {P : Program} {w : World} {K : PySem.W.Frag} {mg : Str → Option Value} {base : Heap}
def spThing : Sp := fun vs H Q _ => ∃ w : Addr, vs = [.ref w] ∧ IsWell w H ∧ ∀ (H' : Hp) (v : V) (d : PyData), Kp (At w) H H' → IsWell w H' → Dq (At w) H' v d → Small d → Q v H'
theorem well_same {w : Addr} {H H' : Hp} (s : Same H H') (h : IsWell w H) : IsWell w H' := by
  obtain ⟨l, st, n, ns, e1, e2, e3, e4⟩ := h
  exact ⟨l, st, n, ns, s _ _ e1, e2, s _ _ e3, e4⟩
theorem well_old {w : Addr} {H : Hp} (h : IsWell w H) : ∀ a, At w a → Old H a := fun a z => by
  obtain ⟨l, st, n, ns, e1, _⟩ := h
  rw [show a = w from z]
  intro e
  rw [e1] at e
  cases e
theorem ok_thing {f : Addr} {fd : FuncData} (F : Fun K "_law_thing" "_law_thing" s_law_thing f fd) (Dlaw_pick : Df P w K mg base 1 "_law_pick" ["well", "limit"] spPick)
    (Dlaw_of : Df P w K mg base 2 "_law_of" ["well", "some"] (spOf K)) : FnOk P w K mg base CX0 3 f fd ["well"] spThing := by
  refine F.ok c_law_thing (fun vs H Q E h => ?_) (fun cdv A outer s H vs Q E hr h => ?_)
  · obtain ⟨w, rfl, _⟩ := h
    rfl
  · obtain ⟨w, rfl, hW, q⟩ := h
    refine ⟨_, (pss_cons (ps_set (i := 1) c_law_thing.nd rfl (.inl rfl) (pe_op op_add (pe_op op_pow pe_int pe_int) (pe_call Dlaw_pick.G (hr.mono (by decide)) rfl Dlaw_pick.g Dlaw_pick.kp Dlaw_pick.b .nil pass0 (pa_cons (pv 0) (pa_cons pe_int pa_nil)))))
 (pss_one (ps_ret (pe_call Dlaw_of.G (hr.mono (by decide)) rfl Dlaw_of.g Dlaw_of.kp Dlaw_of.b .nil pass0 (pa_cons (pv 0) (pa_cons (pe_tup (pa_cons pe_non (pa_cons pe_bl (pa_cons pe_bl (pa_cons pe_int (pa_cons pe_int (pa_cons (pe_un un_neg pe_int) (pa_cons (pv 1) (pa_cons (pe_op op_sub pe_int (pv 1)) (pa_cons pe_str (pa_cons pe_str (pa_cons pe_str (pa_cons pe_str (pa_cons (pe_tup pa_nil) (pa_cons (pe_tup (pa_cons pe_int (pa_cons pe_int (pa_cons pe_int pa_nil)))) (pa_cons (pe_tup (pa_cons (pe_tup (pa_cons pe_int (pa_cons pe_int pa_nil))) (pa_cons (pe_tup (pa_cons pe_int (pa_cons pe_int pa_nil))) pa_nil))) (pa_cons (pe_lst pa_nil) (pa_cons (pe_lst (pa_cons pe_int (pa_cons (pe_tup (pa_cons pe_non (pa_cons pe_int pa_nil))) pa_nil))) (pa_cons pe_dnewK (pa_cons (pe_disp (pps_cons pe_str (pe_tup (pa_cons pe_int (pa_cons pe_int pa_nil))) pps_nil) (by rfl) (by rfl) (fun z => by cases z) (by decide)) (pa_cons (pe_tup (pa_cons (pe_tup (pa_cons pe_str pa_nil)) (pa_cons (pe_tup pa_nil) pa_nil))) (pa_cons (pe_tup (pa_cons pe_non (pa_cons (pe_lst pa_nil) pa_nil))) (pa_cons (pe_disp (pps_cons pe_int (pe_lst pa_nil) pps_nil) (by rfl) (by rfl) (fun z => by cases z) (by decide)) pa_nil))))))))))))))))))))))) pa_nil)))))), ?_⟩
    -- great = 10 ** 20 + _law_pick(well, 1000003)
    refine ⟨_, _, rfl, rfl, ⟨by decide, by decide, by decide⟩, _, rfl, w, _, rfl, by decide, by decide, hW, fun H1 j j0 j1 k1 W1 => ?_⟩
    refine ⟨_, _, rfl, rfl, _, rfl, ?_⟩
    -- the tuple
    have lot : EvD _ [some (.ref w), some (.int (great j))] (.tuple (things j)) := evd_tup
      (evds_cons evd_non <| evds_cons evd_bl <| evds_cons evd_bl <| evds_cons evd_int <| evds_cons evd_int <| evds_cons evd_neg <| evds_cons (evd_var (j := 1) rfl) <| evds_cons (evd_minus (j := 1) rfl) <|
        evds_cons evd_str <| evds_cons evd_str <| evds_cons evd_str <| evds_cons evd_str <| evds_cons (evd_tup evds_nil (by decide)) <|
        evds_cons (evd_tup (evds_cons evd_int <| evds_cons evd_int <| evds_cons evd_int evds_nil) (by decide)) <|
        evds_cons (evd_tup (evds_cons (evd_tup (evds_cons evd_int <| evds_cons evd_int evds_nil) (by decide)) <| evds_cons (evd_tup (evds_cons evd_int <| evds_cons evd_int evds_nil) (by decide)) evds_nil) (by decide)) <|
        evds_cons (evd_lst evds_nil (by decide)) <| evds_cons (evd_lst (evds_cons evd_int <| evds_cons (evd_tup (evds_cons evd_non <| evds_cons evd_int evds_nil) (by decide)) evds_nil) (by decide)) <|
        evds_cons evd_dnew <| evds_cons (evd_dict1 (k := .inr "a") (evd_tup (evds_cons evd_int <| evds_cons evd_int evds_nil) (by decide))) <|
        evds_cons (evd_tup (evds_cons (evd_tup (evds_cons evd_str evds_nil) (by decide)) <| evds_cons (evd_tup evds_nil (by decide)) evds_nil) (by decide)) <|
        evds_cons (evd_tup (evds_cons evd_non <| evds_cons (evd_lst evds_nil (by decide)) evds_nil) (by decide)) <|
        evds_cons (evd_dict1 (k := .inl 0) (evd_lst evds_nil (by decide))) evds_nil) (by show 22 ≤ 1000; decide)
    refine lot H1 _ fun v H2 s2 e2 => ?_
    cases e2 with
    | tup na ea el =>
      rename_i a xs
      have W2 := well_same s2 W1
      have naw : a ≠ w := fun z => na (well_old W1 _ z)
      have hl : xs.length = 22 := el.length
      refine ⟨w, a, xs, rfl, W2, naw, .inr (.inl (.inl ea)), by omega, by omega, fun H3 i y hy k3 W3 => ?_⟩
      obtain ⟨d, hd, dq⟩ := el.at hy
      exact q H3 y d (k1.trans ((Kp.same s2).trans k3)) W3 ((dq.weak (well_old W1)).keep k3) (things_small j0 j1 d (List.mem_of_getElem? hd))
end
end Kx
/-! The classes of errors: what the top has written of them, their __init__. -/
namespace Kx
open PySem PySem.Spec PyProof.Rows L2 Bw

def clsN : List Str := ["InvalidWalk", "InvalidWeights", "InvalidRing", "InvalidLot", "InvalidNumber", "InvalidFraction", "InvalidFlow", "InvalidTable", "InvalidGlasses", "InvalidSighted",
  "InvalidTold", "InvalidChances", "NoRow", "NotADesk", "TooMany", "InvalidPlaces", "InvalidShares", "InvalidRow", "InvalidTies", "InvalidText", "TwiceNamed", "UnknownName", "NoSum", "NotAlike",
  "NotWhole", "NotOfThisKind", "NothingToUndo", "WalkError"]
def cN (i : Nat) : Str := clsN.getD i ""
def bmOf (i : Nat) (W : Addr) : List Value := if i = 27 then PySem.HandSPX.veTail else .ref W :: PySem.HandSPX.veTail

/-- what the top has written of the i-th class, at C; W the base of all -/
structure ClsG (K : PySem.W.Frag) (mg : Str → Option Value) (i : Nat) (C W : Addr) : Prop where
  g : mg (cN i) = some (.ref C)
  lk : ∃ q N bs sn sub ab col dd k0 k1 k2 k3 k5, K.lookup C = some (excClassObj (cN i) q C N bs (bmOf i W) true sn sub ab col dd k0 k1 k2 k3 k5 "ValueError.__new__")
  ga : PySem.W.findIn K (.ref C) "__getattribute__" = some (some (.builtin "BaseException.__getattribute__"))
  gt : PySem.W.findIn K (.ref C) "__getattr__" = some none
  ca : PySem.W.findIn K (.ref C) "__class__" = some (some (.builtin "object.__class__"))
  sa : PySem.W.findIn K (.ref C) "__setattr__" = some (some (.builtin "object.__setattr__"))
  kC : PySem.W.keepIn K (.ref C) = true
/-- the same of all classes -/
structure Glob (K : PySem.W.Frag) : Prop where
  ge : PySem.W.specialIn K (.builtin "object.__class__") "__get__" = some (some (.builtin "getset_descriptor.__get__"))
  tk : PySem.W.takesIn K (.builtin "object.__class__") = some true

section
variable {K : PySem.W.Frag} {mg : Str → Option Value} {i j : Nat} {C C' W : Addr}
theorem ClsG.cd (T : ClsG K mg i C W) : ∃ cd, PySem.W.clsIn K C = some cd ∧ cd.mro = .ref C :: bmOf i W ∧ cd.hasDict = true ∧ cd.name = cN i := by
  obtain ⟨q, N, bs, sn, sub, ab, col, dd, k0, k1, k2, k3, k5, hC⟩ := T.lk
  refine ⟨{ name := cN i, bases := bs, mro := .ref C :: bmOf i W, ns := N, qualname := q, hasDict := true, slotNames := sn, subclasses := sub, abstract := ab, collection := col, hasDel := false }, ?_, rfl, rfl, rfl⟩
  unfold PySem.W.clsIn
  rw [hC]
theorem ClsG.type (T : ClsG K mg i C W) : PySem.W.typeIn K (.ref C) = some (.type "type") := by
  obtain ⟨q, N, bs, sn, sub, ab, col, dd, k0, k1, k2, k3, k5, hC⟩ := T.lk
  show (K.lookup C).map (·.cls) = _
  rw [hC]
  rfl
theorem ClsG.mro (T : ClsG K mg i C W) (v : Value) : PySem.W.mroIn K C v = some ((Value.ref C :: bmOf i W).contains v) := by
  obtain ⟨cd, h, hm, _⟩ := T.cd
  unfold PySem.W.mroIn
  rw [h, Option.bind_some, hm]
  rfl
theorem bm_has (i : Nat) (W : Addr) {v : Value} (h : PySem.HandSPX.veTail.contains v = true) : (bmOf i W).contains v = true := by
  unfold bmOf
  split
  · exact h
  · rw [List.contains_cons, h, Bool.or_true]
theorem bm_refs (i : Nat) (W : Addr) : PySem.HandSPX.refsVE (bmOf i W) = true := by
  unfold bmOf
  split
  · decide +kernel
  · show PySem.HandSPX.refsVE PySem.HandSPX.veTail = true
    decide +kernel
theorem ClsG.sub (T : ClsG K mg i C W) {v : Value} (h : PySem.HandSPX.veTail.contains v = true) : PySem.W.subIn K (.ref C) v = some true := by
  show PySem.W.mroIn K C v = some true
  rw [T.mro, List.contains_cons, bm_has i W h, Bool.or_true]
theorem ClsG.dict (T : ClsG K mg i C W) : PySem.W.hasDictIn K C = true := by
  obtain ⟨cd, h, _, hd, _⟩ := T.cd
  unfold PySem.W.hasDictIn
  rw [h]
  exact hd
theorem ClsG.xci (T : ClsG K mg i C W) (G : Glob K) : XcI K C :=
  ⟨T.ga, T.gt, T.sub (by decide +kernel), T.dict, T.ca, G.ge, G.tk, by
    have := T.sub (v := .type "object") (by decide +kernel)
    exact this⟩
theorem ClsG.oex (T : ClsG K mg i C W) : OexC K C := by
  obtain ⟨q, N, bs, sn, sub, ab, col, dd, k0, k1, k2, k3, k5, hC⟩ := T.lk
  exact ⟨⟨_, q, N, bs, _, sn, sub, ab, col, dd, k0, k1, k2, k3, k5, hC, bm_refs i W⟩, T.sa, T.sub (by decide +kernel), T.type, T.kC⟩
theorem cN_inj : ∀ i j : Nat, i < 28 → j < 28 → cN i = cN j → i = j := by
  have h : ∀ i : Fin 28, ∀ j : Fin 28, cN i.val = cN j.val → i = j := by decide +kernel
  intro i j hi hj e
  exact congrArg Fin.val (h ⟨i, hi⟩ ⟨j, hj⟩ e)
theorem ClsG.apart (T : ClsG K mg i C W) (T' : ClsG K mg j C' W) (hi : i < 28) (hj : j < 28) (e : C = C') : i = j := by
  obtain ⟨cd, h, _, _, n⟩ := T.cd
  obtain ⟨cd', h', _, _, n'⟩ := T'.cd
  rw [e, h'] at h
  cases h
  exact cN_inj i j hi hj (n.symm.trans n')
theorem ClsG.one (T : ClsG K mg i C W) (T' : ClsG K mg i C' W) : C = C' := by
  have e := T.g.symm.trans T'.g
  cases e
  rfl
/-- isinstance(an instance of the i-th, the j-th) -/
theorem ClsG.kit (T : ClsG K mg i C W) (T' : ClsG K mg j C' W) (TW : ClsG K mg 27 W W) (hi : i < 28) (hj : j < 28) :
    PySem.W.kitOne K (.ref C) (.ref C') = some (decide (j = i) || decide (j = 27)) := by
  unfold PySem.W.kitOne
  by_cases e : C = C'
  · have hij := T.apart T' hi hj e
    rw [if_pos (by rw [e]; exact beq_self_eq_true _), decide_eq_true hij.symm]
    rfl
  · have ne : ¬ (Value.ref C == Value.ref C') = true := fun z => e (Value.ref.inj (beq_iff_eq.mp z))
    have hij : j ≠ i := fun z => by
      subst z
      exact e (T.one T')
    rw [if_neg ne, decide_eq_false hij, Bool.false_or]
    obtain ⟨cd, h, _⟩ := T'.cd
    unfold PySem.W.kitCls
    have c : ((PySem.W.clsIn K C').isSome && PySem.W.typeIn K (.ref C') == some (.type "type")) = true := by
      rw [h, T'.type]
      rfl
    dsimp only
    rw [if_pos c]
    show PySem.W.mroIn K C (.ref C') = _
    rw [T.mro, List.contains_cons]
    have ne2 : (Value.ref C' == Value.ref C) = false := Bool.eq_false_iff.mpr fun z => e (Value.ref.inj (beq_iff_eq.mp z)).symm
    rw [ne2, Bool.false_or]
    have tail : PySem.HandSPX.veTail.contains (Value.ref C') = false := rfl
    unfold bmOf
    by_cases h27 : i = 27
    · rw [if_pos h27, tail]
      have : j ≠ 27 := fun z => hij (z.trans h27.symm)
      rw [decide_eq_false this]
    · rw [if_neg h27, List.contains_cons, tail, Bool.or_false]
      by_cases j27 : j = 27
      · subst j27
        rw [T'.one TW, beq_self_eq_true]
        rfl
      · rw [decide_eq_false j27]
        have : (Value.ref C' == Value.ref W) = false := Bool.eq_false_iff.mpr fun z => j27 (T'.apart TW hj (by decide) (Value.ref.inj (beq_iff_eq.mp z)))
        rw [this]
/-- isinstance(an instance of the i-th, a built-in class) -/
theorem ClsG.kitB (T : ClsG K mg i C W) {n : String} {b : Bool} (m : PySem.W.kitMeta n = true) (h : PySem.HandSPX.veTail.contains (.type n) = b) : PySem.W.kitOne K (.ref C) (.type n) = some b := by
  unfold PySem.W.kitOne
  have ne : ¬ (Value.ref C == Value.type n) = true := fun z => nomatch beq_iff_eq.mp z
  rw [if_neg ne]
  unfold PySem.W.kitCls
  dsimp only
  rw [if_pos m]
  show PySem.W.mroIn K C (.type n) = _
  rw [T.mro, List.contains_cons]
  have n0 : (Value.type n == Value.ref C) = false := Bool.eq_false_iff.mpr fun z => nomatch beq_iff_eq.mp z
  rw [n0, Bool.false_or]
  unfold bmOf
  split
  · rw [h]
  · have n1 : (Value.type n == Value.ref W) = false := Bool.eq_false_iff.mpr fun z => nomatch beq_iff_eq.mp z
    rw [List.contains_cons, n1, Bool.false_or, h]
end

/-! ### the __init__s -/
def spI1 (K : PySem.W.Frag) (f : Str) : Sp := fun vs H Q _ => ∃ (a C : Addr) (v : V), vs = [.ref a, v] ∧ OexC K C ∧ PySem.W.findIn K (.ref C) f = some none ∧ H a = some (exo a C none) ∧
  ∀ d, H d = none → d ≠ a → Q .non (upd (upd H d (exd d [(f, v)])) a (exo a C (some d)))
def spI2 (K : PySem.W.Frag) (f f' : Str) : Sp := fun vs H Q _ => ∃ (a C : Addr) (v u : V), vs = [.ref a, v, u] ∧ OexC K C ∧ PySem.W.findIn K (.ref C) f = some none ∧ PySem.W.findIn K (.ref C) f' = some none ∧
  H a = some (exo a C none) ∧ ∀ d, H d = none → d ≠ a → Q .non (upd (upd (upd H d (exd d [(f, v)])) a (exo a C (some d))) d (exd d [(f', u), (f, v)]))
section
variable {P : Program} {w : World} {K : PySem.W.Frag} {mg : Str → Option Value} {base : Heap}
theorem ok_init1 {qual f : Str} {st : Stmt} {fa : Addr} {fd : FuncData} (F : Fun K "__init__" qual st fa fd) (S : FnScope ["self", f] ["self", f] (defScope st)) {q1 q2 q3 q4 : Pos}
    (hB : defBody st = [.Assign [.Attribute (.Name "self" q1) f q2] (.Name f q3) q4]) (v1 : (defScope st).names.lookup ("self" : Str) = some NameKind.local) (v2 : (defScope st).names.lookup f = some NameKind.local)
    (d2 : (f == ("__debug__" : Str)) = false) (d3 : (f == ("__classdict__" : Str)) = false) :
    FnOk P w K mg base CX0 1 fa fd ["self", f] (spI1 K f) := by
  refine F.ok S (fun vs H Q E h => ?_) (fun cdv A outer s H vs Q E hr h => ?_)
  · obtain ⟨a, C, v, rfl, _⟩ := h
    rfl
  · obtain ⟨a, C, v, rfl, T, no, ha, q⟩ := h
    rw [hB]
    refine ⟨_, pss_one (ps_ost (pv 0 rfl (.inl v1)) (pv 1 rfl (.inl v2) d2 d3)), ?_⟩
    exact ⟨v, rfl, .ref a, rfl, a, C, rfl, T, no, .inl ⟨ha, fun dx n ne => q dx n ne⟩⟩
theorem ok_init2 {qual f f' : Str} {st : Stmt} {fa : Addr} {fd : FuncData} (F : Fun K "__init__" qual st fa fd) (S : FnScope ["self", f, f'] ["self", f, f'] (defScope st)) {q1 q2 q3 q4 r1 r2 r3 r4 : Pos}
    (hB : defBody st = [.Assign [.Attribute (.Name "self" q1) f q2] (.Name f q3) q4, .Assign [.Attribute (.Name "self" r1) f' r2] (.Name f' r3) r4])
    (v1 : (defScope st).names.lookup ("self" : Str) = some NameKind.local) (v2 : (defScope st).names.lookup f = some NameKind.local) (v3 : (defScope st).names.lookup f' = some NameKind.local)
    (d2 : (f == ("__debug__" : Str)) = false) (d3 : (f == ("__classdict__" : Str)) = false) (e2 : (f' == ("__debug__" : Str)) = false) (e3 : (f' == ("__classdict__" : Str)) = false) :
    FnOk P w K mg base CX0 1 fa fd ["self", f, f'] (spI2 K f f') := by
  refine F.ok S (fun vs H Q E h => ?_) (fun cdv A outer s H vs Q E hr h => ?_)
  · obtain ⟨a, C, v, u, rfl, _⟩ := h
    rfl
  · obtain ⟨a, C, v, u, rfl, T, no, no', ha, q⟩ := h
    rw [hB]
    refine ⟨_, pss_cons (ps_ost (pv 0 rfl (.inl v1)) (pv 1 rfl (.inl v2) d2 d3)) (pss_one (ps_ost (pv 0 rfl (.inl v1)) (pv 2 rfl (.inl v3) e2 e3))), ?_⟩
    refine ⟨v, rfl, .ref a, rfl, a, C, rfl, T, no, .inl ⟨ha, fun dx n ne => ?_⟩⟩
    refine ⟨u, rfl, .ref a, rfl, a, C, rfl, T, no', .inr ⟨dx, [(f, v)], upd_same, ?_, by show 1 ≤ 900; decide, q dx n ne⟩⟩
    rw [upd_ne ne, upd_same]
end

/-! ### all classes -/
def fl (i : Nat) : List Str := if i < 15 then ["given"] else if i < 19 then ["index"] else if i < 23 then ["line", "place"] else if i = 23 then ["ring"] else []
def spI (K : PySem.W.Frag) : List Str → Sp
  | [f] => spI1 K f
  | [f, f'] => spI2 K f f'
  | _ => fun _ _ _ _ => False
structure AllC (K : PySem.W.Frag) (mg : Str → Option Value) (C : Nat → Addr) : Prop where
  c : ∀ i, i < 28 → ClsG K mg i (C i) (C 27)
  G : Glob K
  no : ∀ i, i < 24 → ∀ f ∈ fl i, PySem.W.findIn K (.ref (C i)) f = some none
  ex : ∀ i, 24 ≤ i → i < 28 → PySem.W.excIn K (C i) PySem.HandSPX.veTail "ValueError.__new__" = true
/-- the __init__ of a class -/
structure Xi (P : Program) (w : World) (K : PySem.W.Frag) (mg : Str → Option Value) (base : Heap) (C : Addr) (ps : List Str) where
  fI : Addr
  fd : FuncData
  iC : PySem.W.findIn K (.ref C) "__init__" = some (some (.ref fI))
  tI : PySem.W.typeIn K (.ref fI) = some (.type "function")
  G : FnOk P w K mg base CX0 1 fI fd ("self" :: ps) (spI K ps)
  b : Binds K fd ("self" :: ps) []
  kb : SelfKw K fd ("self" :: ps) ps (fun l => l)
  kr : SelfKw K fd ("self" :: ps) ps.reverse (fun l => l.reverse)
theorem vals_rev {vs : List V} {us : List Value} (h : Vals vs us) : Vals vs.reverse us.reverse := h.reverse
end Kx
/-! One of each class of errors is made, and asked for its class. -/
namespace Kx
open PySem PySem.Spec PyProof.Rows L2 Bw
abbrev s_law_named : Stmt := topS 33
abbrev n_law_named : List Str := ["here", "there", "made"]
theorem c_law_named : FnScope n_law_named ["here", "there"] (defScope s_law_named) :=
  ⟨rfl, rfl, rfl, by decide +kernel, rfl, by decide +kernel, by decide +kernel⟩

abbrev s_law_placed : Stmt := topS 34
abbrev n_law_placed : List Str := ["here", "there", "made"]
theorem c_law_placed : FnScope n_law_placed ["here", "there"] (defScope s_law_placed) :=
  ⟨rfl, rfl, rfl, by decide +kernel, rfl, by decide +kernel, by decide +kernel⟩

abbrev s_law_under : Stmt := topS 35
abbrev n_law_under : List Str := ["made", "found"]
theorem c_law_under : FnScope n_law_under ["made"] (defScope s_law_under) :=
  ⟨rfl, rfl, rfl, by decide +kernel, rfl, by decide +kernel, by decide +kernel⟩

abbrev s_law_is_plain : Stmt := topS 36
abbrev n_law_is_plain : List Str := ["made"]
theorem c_law_is_plain : FnScope n_law_is_plain ["made"] (defScope s_law_is_plain) :=
  ⟨rfl, rfl, rfl, by decide +kernel, rfl, by decide +kernel, by decide +kernel⟩


structure Bc (mg : Str → Option Value) : Prop where
  ValueError : mg "ValueError" = none
  Exception : mg "Exception" = none
  LookupError : mg "LookupError" = none
  ArithmeticError : mg "ArithmeticError" = none
  TypeError : mg "TypeError" = none
  RuntimeError : mg "RuntimeError" = none
  AttributeError : mg "AttributeError" = none
  StopIteration : mg "StopIteration" = none

theorem exAt_same {H H' : Hp} {a C : Addr} {fs : List (Str × V)} (s : Same H H') (h : ExAt H a C fs) : ExAt H' a C fs := by
  rcases h with ⟨e, h⟩ | ⟨d, n, e, ed⟩
  · exact .inl ⟨e, s _ _ h⟩
  · exact .inr ⟨d, n, s _ _ e, s _ _ ed⟩
theorem _root_.Bw.ExAt.same {H H' : Hp} {a C : Addr} {fs : List (Str × V)} (h : ExAt H a C fs) (s : Same H H') : ExAt H' a C fs := exAt_same s h

abbrev Xc := Addr × List (Str × V)
def ExAll (H : Hp) : List Addr → List Xc → Prop := Paired fun a x => ExAt H a x.1 x.2
theorem exAll_same {H H' : Hp} (s : Same H H') : ∀ {as : List Addr} {xs : List Xc}, ExAll H as xs → ExAll H' as xs
  | _, _, .nil => .nil
  | _, _, .cons h t => .cons (exAt_same s h) (exAll_same s t)
theorem exAll_app {H : Hp} : ∀ {as bs : List Addr} {xs ys : List Xc}, ExAll H as xs → ExAll H bs ys → ExAll H (as ++ bs) (xs ++ ys)
  | _, _, _, _, .nil, k => k
  | _, _, _, _, .cons h t, k => .cons h (exAll_app t k)

def EvE (te : TE) (σ : L2.St) (x : Xc) : Prop := ∀ (H : Hp) (Q : VK), (∀ a H', Same H H' → ExAt H' a x.1 x.2 → Q (.ref a) H') → te σ H Q
def EvEs (ta : TA) (σ : L2.St) (xs : List Xc) : Prop := ∀ (H : Hp) (Q : List V → Hp → Prop), (∀ as H', Same H H' → ExAll H' as xs → Q (as.map V.ref) H') → ta σ H Q
section
variable {K : PySem.W.Frag} {σ : L2.St} {C : Addr} {f f' : Str} {v u : V} {j j' : Nat}
theorem eve_nil : EvEs tNil σ [] := fun H Q q => q [] H (.refl H) .nil
theorem eve_cons {te : TE} {ta : TA} {x : Xc} {xs : List Xc} (h : EvE te σ x) (t : EvEs ta σ xs) : EvEs (tCons te ta) σ (x :: xs) := fun H Q q =>
  h H _ fun a H1 s1 e1 => t H1 _ fun as H2 s2 e2 => q (a :: as) H2 (s1.trans s2) (.cons (e1.same s2) e2)
theorem made_same {H : Hp} {a d : Addr} {o o' : HO} {x : HO} (ha : H a = none) (hd : upd H a x d = none) : Same H (upd (upd (upd H a x) d o) a o') := fun b z e => by
  have h1 : b ≠ a := ne_of_none e ha
  have h2 : b ≠ d := fun q => by
    rw [← q, upd_ne h1, e] at hd
    cases hd
  rw [upd_ne h1, upd_ne h2, upd_ne h1]
  exact e
theorem eve_1 (hx : σ[j]? = some (some v)) (T : OexC K C) (no : PySem.W.findIn K (.ref C) f = some none) : EvE (tNew C (spI1 K f) (fun l => l) 1 (tCons (tVar j) tNil)) σ (C, [(f, v)]) := fun H Q q =>
  ⟨v, hx, rfl, fun a ha => ⟨a, C, v, rfl, T, no, upd_same, fun d hd ne => ⟨rfl, q a _ (made_same ha hd) (.inr ⟨d, ne, upd_same, by rw [upd_ne ne, upd_same]⟩)⟩⟩⟩
theorem made_same2 {H : Hp} {a d : Addr} {o o' o2 : HO} {x : HO} (ha : H a = none) (hd : upd H a x d = none) : Same H (upd (upd (upd (upd H a x) d o) a o') d o2) := fun b z e => by
  have h1 : b ≠ a := ne_of_none e ha
  have h2 : b ≠ d := fun q => by
    rw [← q, upd_ne h1, e] at hd
    cases hd
  rw [upd_ne h2, upd_ne h1, upd_ne h2, upd_ne h1]
  exact e
theorem eve_2 (hx : σ[j]? = some (some v)) (hy : σ[j']? = some (some u)) (T : OexC K C) (no : PySem.W.findIn K (.ref C) f = some none) (no' : PySem.W.findIn K (.ref C) f' = some none) :
    EvE (tNew C (spI2 K f f') (fun l => l) 2 (tCons (tVar j) (tCons (tVar j') tNil))) σ (C, [(f', u), (f, v)]) := fun H Q q =>
  ⟨v, hx, u, hy, rfl, fun a ha => ⟨a, C, v, u, rfl, T, no, no', upd_same, fun d hd ne => ⟨rfl, q a _ (made_same2 ha hd) (.inr ⟨d, ne, by rw [upd_ne ne.symm, upd_same], upd_same⟩)⟩⟩⟩
theorem eve_2r (hx : σ[j]? = some (some u)) (hy : σ[j']? = some (some v)) (T : OexC K C) (no : PySem.W.findIn K (.ref C) f = some none) (no' : PySem.W.findIn K (.ref C) f' = some none) :
    EvE (tNew C (spI2 K f f') (fun l => l.reverse) 2 (tCons (tVar j) (tCons (tVar j') tNil))) σ (C, [(f', u), (f, v)]) := fun H Q q =>
  ⟨u, hx, v, hy, rfl, fun a ha => ⟨a, C, v, u, rfl, T, no, no', upd_same, fun d hd ne => ⟨rfl, q a _ (made_same2 ha hd) (.inr ⟨d, ne, by rw [upd_ne ne.symm, upd_same], upd_same⟩)⟩⟩⟩
theorem eve_0 : EvE (tNew0 C) σ (C, []) := fun H Q q => fun a ha => q a _ (same_new ha) (.inl ⟨rfl, upd_same⟩)

/-! ### lists of them -/
variable {D : Ends} {H0 : Hp} {ta : TA} {xs ys : List Xc}
theorem paired_len {H : Hp} {as : List Addr} {xs : List Xc} (h : ExAll H as xs) : as.length = xs.length := Paired.length h
theorem made_first (h : EvEs ta σ xs) (hl : xs.length ≤ 100) (k : ∀ l H as, Same H0 H → H l = some (.lst (as.map V.ref)) → ExAll H as xs → D.nx (σ.set 2 (some (.ref l))) H) : tAsg (tLst ta) (gName 2) D σ H0 :=
  h H0 _ fun as H1 s1 e1 => ⟨sz63 (by rw [List.length_map, paired_len e1]; omega), fun p hp => k p _ as (s1.trans (same_new hp)) upd_same (exAll_same (same_new hp) e1)⟩
theorem made_cat {H : Hp} {Q : VK} {l : Addr} {as : List Addr} (hσ : σ[2]? = some (some (.ref l))) (s : Same H0 H) (e : H l = some (.lst (as.map V.ref))) (x : ExAll H as xs) (h : EvEs ta σ ys) (hl : xs.length + ys.length ≤ 100)
    (k : ∀ l H as, Same H0 H → H l = some (.lst (as.map V.ref)) → ExAll H as (xs ++ ys) → Q (.ref l) H) : tOp rCat (tVar 2) (tLst ta) σ H Q := by
  refine ⟨_, hσ, h H _ fun bs H1 s1 e1 => ⟨sz63 (by rw [List.length_map, paired_len e1]; omega), fun p hp => ?_⟩⟩
  have s2 : Same H (upd H1 p (.lst (bs.map V.ref))) := s1.trans (same_new hp)
  have la := paired_len x
  have lb := paired_len e1
  refine ⟨l, p, _, _, rfl, rfl, s2 _ _ e, upd_same, sz63 (by rw [List.length_map, List.length_map]; omega), fun m hm => ?_⟩
  have s3 : Same H1 (upd (upd H1 p (.lst (bs.map V.ref))) m (.lst (as.map V.ref ++ bs.map V.ref))) := (same_new hp).trans (same_new hm)
  refine k m _ (as ++ bs) (s.trans (s1.trans s3)) ?_ (exAll_app (exAll_same (s1.trans s3) x) (exAll_same s3 e1))
  rw [upd_same, List.map_append]
theorem made_more {H : Hp} {l : Addr} {as : List Addr} {v0 v1 : V} (s : Same H0 H) (e : H l = some (.lst (as.map V.ref))) (x : ExAll H as xs) (h : EvEs ta [some v0, some v1, some (.ref l)] ys) (hl : xs.length + ys.length ≤ 100)
    (k : ∀ l H as, Same H0 H → H l = some (.lst (as.map V.ref)) → ExAll H as (xs ++ ys) → D.nx [some v0, some v1, some (.ref l)] H) : tAsg (tOp rCat (tVar 2) (tLst ta)) (gName 2) D [some v0, some v1, some (.ref l)] H :=
  made_cat (Q := fun v H1 => gName 2 v [some v0, some v1, some (.ref l)] H1 D.nx) rfl s e x h hl fun l' H1 as' s' e' x' => k l' H1 as' s' e' x'
theorem made_last {H : Hp} {l : Addr} {as : List Addr} {v0 v1 : V} (s : Same H0 H) (e : H l = some (.lst (as.map V.ref))) (x : ExAll H as xs) (h : EvEs ta [some v0, some v1, some (.ref l)] ys) (hl : xs.length + ys.length ≤ 100)
    (k : ∀ l H as, Same H0 H → H l = some (.lst (as.map V.ref)) → ExAll H as (xs ++ ys) → D.rt (.ref l) H) : tRet (tOp rCat (tVar 2) (tLst ta)) D [some v0, some v1, some (.ref l)] H :=
  made_cat (Q := D.rt) rfl s e x h hl k
end

/-- one of each, of the two values -/
def eachOf (C : Nat → Addr) (v u : V) : List Xc := (List.range 28).map fun i => (C i, match fl i with
  | [f] => [(f, v)]
  | [f, f'] => [(f', u), (f, v)]
  | _ => [])
section
variable {P : Program} {w : World} {K : PySem.W.Frag} {mg : Str → Option Value} {base : Heap} {C : Nat → Addr}
def spMade (C : Nat → Addr) : Sp := fun vs H Q _ => ∃ v u : V, vs = [v, u] ∧ ∀ (l : Addr) (H' : Hp) (as : List Addr), Same H H' → H' l = some (.lst (as.map V.ref)) → ExAll H' as (eachOf C v u) → Q (.ref l) H'
theorem ok_named {f : Addr} {fd : FuncData} (F : Fun K "_law_named" "_law_named" s_law_named f fd) (A : AllC K mg C) (X : ∀ i, i < 24 → Xi P w K mg base (C i) (fl i)) :
    FnOk P w K mg base CX0 3 f fd ["here", "there"] (spMade C) := by
  refine F.ok c_law_named (fun vs H Q E h => ?_) (fun cdv _ outer s H vs Q E hr h => ?_)
  · obtain ⟨v, u, rfl, _⟩ := h
    rfl
  · obtain ⟨v, u, rfl, q⟩ := h
    refine ⟨_, (pss_cons (ps_set (i := 2) c_law_named.nd rfl (.inl rfl) (pe_lst (pa_cons (pe_newK (ks := ["given"]) (g := fun l => l) (A.c 0 (by decide)).oex (X 0 (by decide)).iC (X 0 (by decide)).tI (X 0 (by decide)).G hr (X 0 (by decide)).kb (fun h => h) rfl (A.c 0 (by decide)).g (pk_cons (pv 0) pk_nil)) (pa_cons (pe_newK (ks := ["given"]) (g := fun l => l) (A.c 1 (by decide)).oex (X 1 (by decide)).iC (X 1 (by decide)).tI (X 1 (by decide)).G hr (X 1 (by decide)).kb (fun h => h) rfl (A.c 1 (by decide)).g (pk_cons (pv 0) pk_nil)) (pa_cons (pe_newK (ks := ["given"]) (g := fun l => l) (A.c 2 (by decide)).oex (X 2 (by decide)).iC (X 2 (by decide)).tI (X 2 (by decide)).G hr (X 2 (by decide)).kb (fun h => h) rfl (A.c 2 (by decide)).g (pk_cons (pv 0) pk_nil)) (pa_cons (pe_newK (ks := ["given"]) (g := fun l => l) (A.c 3 (by decide)).oex (X 3 (by decide)).iC (X 3 (by decide)).tI (X 3 (by decide)).G hr (X 3 (by decide)).kb (fun h => h) rfl (A.c 3 (by decide)).g (pk_cons (pv 0) pk_nil)) pa_nil))))))
 (pss_cons (ps_set (i := 2) c_law_named.nd rfl (.inl rfl) (pe_op op_cat (pv 2) (pe_lst (pa_cons (pe_newK (ks := ["given"]) (g := fun l => l) (A.c 4 (by decide)).oex (X 4 (by decide)).iC (X 4 (by decide)).tI (X 4 (by decide)).G hr (X 4 (by decide)).kb (fun h => h) rfl (A.c 4 (by decide)).g (pk_cons (pv 0) pk_nil)) (pa_cons (pe_newK (ks := ["given"]) (g := fun l => l) (A.c 5 (by decide)).oex (X 5 (by decide)).iC (X 5 (by decide)).tI (X 5 (by decide)).G hr (X 5 (by decide)).kb (fun h => h) rfl (A.c 5 (by decide)).g (pk_cons (pv 0) pk_nil)) (pa_cons (pe_newK (ks := ["given"]) (g := fun l => l) (A.c 6 (by decide)).oex (X 6 (by decide)).iC (X 6 (by decide)).tI (X 6 (by decide)).G hr (X 6 (by decide)).kb (fun h => h) rfl (A.c 6 (by decide)).g (pk_cons (pv 0) pk_nil)) pa_nil))))))
 (pss_cons (ps_set (i := 2) c_law_named.nd rfl (.inl rfl) (pe_op op_cat (pv 2) (pe_lst (pa_cons (pe_newK (ks := ["given"]) (g := fun l => l) (A.c 7 (by decide)).oex (X 7 (by decide)).iC (X 7 (by decide)).tI (X 7 (by decide)).G hr (X 7 (by decide)).kb (fun h => h) rfl (A.c 7 (by decide)).g (pk_cons (pv 0) pk_nil)) (pa_cons (pe_newK (ks := ["given"]) (g := fun l => l) (A.c 8 (by decide)).oex (X 8 (by decide)).iC (X 8 (by decide)).tI (X 8 (by decide)).G hr (X 8 (by decide)).kb (fun h => h) rfl (A.c 8 (by decide)).g (pk_cons (pv 0) pk_nil)) (pa_cons (pe_newK (ks := ["given"]) (g := fun l => l) (A.c 9 (by decide)).oex (X 9 (by decide)).iC (X 9 (by decide)).tI (X 9 (by decide)).G hr (X 9 (by decide)).kb (fun h => h) rfl (A.c 9 (by decide)).g (pk_cons (pv 0) pk_nil)) pa_nil))))))
 (pss_cons (ps_set (i := 2) c_law_named.nd rfl (.inl rfl) (pe_op op_cat (pv 2) (pe_lst (pa_cons (pe_newK (ks := ["given"]) (g := fun l => l) (A.c 10 (by decide)).oex (X 10 (by decide)).iC (X 10 (by decide)).tI (X 10 (by decide)).G hr (X 10 (by decide)).kb (fun h => h) rfl (A.c 10 (by decide)).g (pk_cons (pv 0) pk_nil)) (pa_cons (pe_newK (ks := ["given"]) (g := fun l => l) (A.c 11 (by decide)).oex (X 11 (by decide)).iC (X 11 (by decide)).tI (X 11 (by decide)).G hr (X 11 (by decide)).kb (fun h => h) rfl (A.c 11 (by decide)).g (pk_cons (pv 0) pk_nil)) (pa_cons (pe_newK (ks := ["given"]) (g := fun l => l) (A.c 12 (by decide)).oex (X 12 (by decide)).iC (X 12 (by decide)).tI (X 12 (by decide)).G hr (X 12 (by decide)).kb (fun h => h) rfl (A.c 12 (by decide)).g (pk_cons (pv 0) pk_nil)) (pa_cons (pe_newK (ks := ["given"]) (g := fun l => l) (A.c 13 (by decide)).oex (X 13 (by decide)).iC (X 13 (by decide)).tI (X 13 (by decide)).G hr (X 13 (by decide)).kb (fun h => h) rfl (A.c 13 (by decide)).g (pk_cons (pv 0) pk_nil)) pa_nil)))))))
 (pss_cons (ps_set (i := 2) c_law_named.nd rfl (.inl rfl) (pe_op op_cat (pv 2) (pe_lst (pa_cons (pe_newK (ks := ["given"]) (g := fun l => l) (A.c 14 (by decide)).oex (X 14 (by decide)).iC (X 14 (by decide)).tI (X 14 (by decide)).G hr (X 14 (by decide)).kb (fun h => h) rfl (A.c 14 (by decide)).g (pk_cons (pv 0) pk_nil)) (pa_cons (pe_newK (ks := ["index"]) (g := fun l => l) (A.c 15 (by decide)).oex (X 15 (by decide)).iC (X 15 (by decide)).tI (X 15 (by decide)).G hr (X 15 (by decide)).kb (fun h => h) rfl (A.c 15 (by decide)).g (pk_cons (pv 0) pk_nil)) (pa_cons (pe_newK (ks := ["index"]) (g := fun l => l) (A.c 16 (by decide)).oex (X 16 (by decide)).iC (X 16 (by decide)).tI (X 16 (by decide)).G hr (X 16 (by decide)).kb (fun h => h) rfl (A.c 16 (by decide)).g (pk_cons (pv 0) pk_nil)) (pa_cons (pe_newK (ks := ["index"]) (g := fun l => l) (A.c 17 (by decide)).oex (X 17 (by decide)).iC (X 17 (by decide)).tI (X 17 (by decide)).G hr (X 17 (by decide)).kb (fun h => h) rfl (A.c 17 (by decide)).g (pk_cons (pv 0) pk_nil)) pa_nil)))))))
 (pss_cons (ps_set (i := 2) c_law_named.nd rfl (.inl rfl) (pe_op op_cat (pv 2) (pe_lst (pa_cons (pe_newK (ks := ["index"]) (g := fun l => l) (A.c 18 (by decide)).oex (X 18 (by decide)).iC (X 18 (by decide)).tI (X 18 (by decide)).G hr (X 18 (by decide)).kb (fun h => h) rfl (A.c 18 (by decide)).g (pk_cons (pv 0) pk_nil)) (pa_cons (pe_newK (ks := ["line", "place"]) (g := fun l => l) (A.c 19 (by decide)).oex (X 19 (by decide)).iC (X 19 (by decide)).tI (X 19 (by decide)).G hr (X 19 (by decide)).kb (fun h => h) rfl (A.c 19 (by decide)).g (pk_cons (pv 0) (pk_cons (pv 1) pk_nil))) (pa_cons (pe_newK (ks := ["place", "line"]) (g := fun l => l.reverse) (A.c 20 (by decide)).oex (X 20 (by decide)).iC (X 20 (by decide)).tI (X 20 (by decide)).G hr (X 20 (by decide)).kr (fun h => vals_rev h) rfl (A.c 20 (by decide)).g (pk_cons (pv 1) (pk_cons (pv 0) pk_nil))) pa_nil))))))
 (pss_cons (ps_set (i := 2) c_law_named.nd rfl (.inl rfl) (pe_op op_cat (pv 2) (pe_lst (pa_cons (pe_newK (ks := ["line", "place"]) (g := fun l => l) (A.c 21 (by decide)).oex (X 21 (by decide)).iC (X 21 (by decide)).tI (X 21 (by decide)).G hr (X 21 (by decide)).kb (fun h => h) rfl (A.c 21 (by decide)).g (pk_cons (pv 0) (pk_cons (pv 1) pk_nil))) (pa_cons (pe_newK (ks := ["place", "line"]) (g := fun l => l.reverse) (A.c 22 (by decide)).oex (X 22 (by decide)).iC (X 22 (by decide)).tI (X 22 (by decide)).G hr (X 22 (by decide)).kr (fun h => vals_rev h) rfl (A.c 22 (by decide)).g (pk_cons (pv 1) (pk_cons (pv 0) pk_nil))) (pa_cons (pe_newK (ks := ["ring"]) (g := fun l => l) (A.c 23 (by decide)).oex (X 23 (by decide)).iC (X 23 (by decide)).tI (X 23 (by decide)).G hr (X 23 (by decide)).kb (fun h => h) rfl (A.c 23 (by decide)).g (pk_cons (pv 0) pk_nil)) pa_nil))))))
 (pss_one (ps_ret (pe_op op_cat (pv 2) (pe_lst (pa_cons (pe_new0 PySem.F.excBase_ValueError (A.ex 24 (by decide) (by decide)) (A.c 24 (by decide)).g (A.c 24 (by decide)).kC rfl) (pa_cons (pe_new0 PySem.F.excBase_ValueError (A.ex 25 (by decide) (by decide)) (A.c 25 (by decide)).g (A.c 25 (by decide)).kC rfl) (pa_cons (pe_new0 PySem.F.excBase_ValueError (A.ex 26 (by decide) (by decide)) (A.c 26 (by decide)).g (A.c 26 (by decide)).kC rfl) (pa_cons (pe_new0 PySem.F.excBase_ValueError (A.ex 27 (by decide) (by decide)) (A.c 27 (by decide)).g (A.c 27 (by decide)).kC rfl) pa_nil))))))))))))))), ?_⟩
    have hx0 : ∀ {x : Option V}, ([some v, some u, x] : List (Option V))[0]? = some (some v) := rfl
    have hx1 : ∀ {x : Option V}, ([some v, some u, x] : List (Option V))[1]? = some (some u) := rfl
    refine made_first (show EvEs _ _ _ from (eve_cons (eve_1 (f := "given") (j := 0) hx0 (A.c 0 (by decide)).oex (A.no 0 (by decide) _ (by decide)))
          (eve_cons (eve_1 (f := "given") (j := 0) hx0 (A.c 1 (by decide)).oex (A.no 1 (by decide) _ (by decide)))
          (eve_cons (eve_1 (f := "given") (j := 0) hx0 (A.c 2 (by decide)).oex (A.no 2 (by decide) _ (by decide)))
          (eve_cons (eve_1 (f := "given") (j := 0) hx0 (A.c 3 (by decide)).oex (A.no 3 (by decide) _ (by decide)))
          eve_nil))))) (Nat.le_of_ble_eq_true rfl) fun l0 H0 as0 s0 e0 x0 => ?_
    refine made_more s0 e0 x0 (show EvEs _ _ _ from (eve_cons (eve_1 (f := "given") (j := 0) hx0 (A.c 4 (by decide)).oex (A.no 4 (by decide) _ (by decide)))
          (eve_cons (eve_1 (f := "given") (j := 0) hx0 (A.c 5 (by decide)).oex (A.no 5 (by decide) _ (by decide)))
          (eve_cons (eve_1 (f := "given") (j := 0) hx0 (A.c 6 (by decide)).oex (A.no 6 (by decide) _ (by decide)))
          eve_nil)))) (Nat.le_of_ble_eq_true rfl) fun l1 H1 as1 s1 e1 x1 => ?_
    refine made_more s1 e1 x1 (show EvEs _ _ _ from (eve_cons (eve_1 (f := "given") (j := 0) hx0 (A.c 7 (by decide)).oex (A.no 7 (by decide) _ (by decide)))
          (eve_cons (eve_1 (f := "given") (j := 0) hx0 (A.c 8 (by decide)).oex (A.no 8 (by decide) _ (by decide)))
          (eve_cons (eve_1 (f := "given") (j := 0) hx0 (A.c 9 (by decide)).oex (A.no 9 (by decide) _ (by decide)))
          eve_nil)))) (Nat.le_of_ble_eq_true rfl) fun l2 H2 as2 s2 e2 x2 => ?_
    refine made_more s2 e2 x2 (show EvEs _ _ _ from (eve_cons (eve_1 (f := "given") (j := 0) hx0 (A.c 10 (by decide)).oex (A.no 10 (by decide) _ (by decide)))
          (eve_cons (eve_1 (f := "given") (j := 0) hx0 (A.c 11 (by decide)).oex (A.no 11 (by decide) _ (by decide)))
          (eve_cons (eve_1 (f := "given") (j := 0) hx0 (A.c 12 (by decide)).oex (A.no 12 (by decide) _ (by decide)))
          (eve_cons (eve_1 (f := "given") (j := 0) hx0 (A.c 13 (by decide)).oex (A.no 13 (by decide) _ (by decide)))
          eve_nil))))) (Nat.le_of_ble_eq_true rfl) fun l3 H3 as3 s3 e3 x3 => ?_
    refine made_more s3 e3 x3 (show EvEs _ _ _ from (eve_cons (eve_1 (f := "given") (j := 0) hx0 (A.c 14 (by decide)).oex (A.no 14 (by decide) _ (by decide)))
          (eve_cons (eve_1 (f := "index") (j := 0) hx0 (A.c 15 (by decide)).oex (A.no 15 (by decide) _ (by decide)))
          (eve_cons (eve_1 (f := "index") (j := 0) hx0 (A.c 16 (by decide)).oex (A.no 16 (by decide) _ (by decide)))
          (eve_cons (eve_1 (f := "index") (j := 0) hx0 (A.c 17 (by decide)).oex (A.no 17 (by decide) _ (by decide)))
          eve_nil))))) (Nat.le_of_ble_eq_true rfl) fun l4 H4 as4 s4 e4 x4 => ?_
    refine made_more s4 e4 x4 (show EvEs _ _ _ from (eve_cons (eve_1 (f := "index") (j := 0) hx0 (A.c 18 (by decide)).oex (A.no 18 (by decide) _ (by decide)))
          (eve_cons (eve_2 (f := "line") (f' := "place") (j := 0) (j' := 1) hx0 hx1 (A.c 19 (by decide)).oex (A.no 19 (by decide) _ (by decide)) (A.no 19 (by decide) _ (by decide)))
          (eve_cons (eve_2r (f := "line") (f' := "place") (j := 1) (j' := 0) hx1 hx0 (A.c 20 (by decide)).oex (A.no 20 (by decide) _ (by decide)) (A.no 20 (by decide) _ (by decide)))
          eve_nil)))) (Nat.le_of_ble_eq_true rfl) fun l5 H5 as5 s5 e5 x5 => ?_
    refine made_more s5 e5 x5 (show EvEs _ _ _ from (eve_cons (eve_2 (f := "line") (f' := "place") (j := 0) (j' := 1) hx0 hx1 (A.c 21 (by decide)).oex (A.no 21 (by decide) _ (by decide)) (A.no 21 (by decide) _ (by decide)))
          (eve_cons (eve_2r (f := "line") (f' := "place") (j := 1) (j' := 0) hx1 hx0 (A.c 22 (by decide)).oex (A.no 22 (by decide) _ (by decide)) (A.no 22 (by decide) _ (by decide)))
          (eve_cons (eve_1 (f := "ring") (j := 0) hx0 (A.c 23 (by decide)).oex (A.no 23 (by decide) _ (by decide)))
          eve_nil)))) (Nat.le_of_ble_eq_true rfl) fun l6 H6 as6 s6 e6 x6 => ?_
    exact made_last s6 e6 x6 (show EvEs _ _ _ from (eve_cons eve_0
          (eve_cons eve_0
          (eve_cons eve_0
          (eve_cons eve_0
          eve_nil))))) (Nat.le_of_ble_eq_true rfl) fun l H1 as s e x => q l H1 as s e x
theorem ok_placed {f : Addr} {fd : FuncData} (F : Fun K "_law_placed" "_law_placed" s_law_placed f fd) (A : AllC K mg C) (X : ∀ i, i < 24 → Xi P w K mg base (C i) (fl i)) :
    FnOk P w K mg base CX0 3 f fd ["here", "there"] (spMade C) := by
  refine F.ok c_law_placed (fun vs H Q E h => ?_) (fun cdv _ outer s H vs Q E hr h => ?_)
  · obtain ⟨v, u, rfl, _⟩ := h
    rfl
  · obtain ⟨v, u, rfl, q⟩ := h
    refine ⟨_, (pss_cons (ps_set (i := 2) c_law_placed.nd rfl (.inl rfl) (pe_lst (pa_cons (pe_newP (A.c 0 (by decide)).oex (X 0 (by decide)).iC (X 0 (by decide)).tI (X 0 (by decide)).G hr (X 0 (by decide)).b rfl (A.c 0 (by decide)).g (pa_cons (pv 0) pa_nil)) (pa_cons (pe_newP (A.c 1 (by decide)).oex (X 1 (by decide)).iC (X 1 (by decide)).tI (X 1 (by decide)).G hr (X 1 (by decide)).b rfl (A.c 1 (by decide)).g (pa_cons (pv 0) pa_nil)) (pa_cons (pe_newP (A.c 2 (by decide)).oex (X 2 (by decide)).iC (X 2 (by decide)).tI (X 2 (by decide)).G hr (X 2 (by decide)).b rfl (A.c 2 (by decide)).g (pa_cons (pv 0) pa_nil)) (pa_cons (pe_newP (A.c 3 (by decide)).oex (X 3 (by decide)).iC (X 3 (by decide)).tI (X 3 (by decide)).G hr (X 3 (by decide)).b rfl (A.c 3 (by decide)).g (pa_cons (pv 0) pa_nil)) (pa_cons (pe_newP (A.c 4 (by decide)).oex (X 4 (by decide)).iC (X 4 (by decide)).tI (X 4 (by decide)).G hr (X 4 (by decide)).b rfl (A.c 4 (by decide)).g (pa_cons (pv 0) pa_nil)) pa_nil)))))))
 (pss_cons (ps_set (i := 2) c_law_placed.nd rfl (.inl rfl) (pe_op op_cat (pv 2) (pe_lst (pa_cons (pe_newP (A.c 5 (by decide)).oex (X 5 (by decide)).iC (X 5 (by decide)).tI (X 5 (by decide)).G hr (X 5 (by decide)).b rfl (A.c 5 (by decide)).g (pa_cons (pv 0) pa_nil)) (pa_cons (pe_newP (A.c 6 (by decide)).oex (X 6 (by decide)).iC (X 6 (by decide)).tI (X 6 (by decide)).G hr (X 6 (by decide)).b rfl (A.c 6 (by decide)).g (pa_cons (pv 0) pa_nil)) (pa_cons (pe_newP (A.c 7 (by decide)).oex (X 7 (by decide)).iC (X 7 (by decide)).tI (X 7 (by decide)).G hr (X 7 (by decide)).b rfl (A.c 7 (by decide)).g (pa_cons (pv 0) pa_nil)) (pa_cons (pe_newP (A.c 8 (by decide)).oex (X 8 (by decide)).iC (X 8 (by decide)).tI (X 8 (by decide)).G hr (X 8 (by decide)).b rfl (A.c 8 (by decide)).g (pa_cons (pv 0) pa_nil)) pa_nil)))))))
 (pss_cons (ps_set (i := 2) c_law_placed.nd rfl (.inl rfl) (pe_op op_cat (pv 2) (pe_lst (pa_cons (pe_newP (A.c 9 (by decide)).oex (X 9 (by decide)).iC (X 9 (by decide)).tI (X 9 (by decide)).G hr (X 9 (by decide)).b rfl (A.c 9 (by decide)).g (pa_cons (pv 0) pa_nil)) (pa_cons (pe_newP (A.c 10 (by decide)).oex (X 10 (by decide)).iC (X 10 (by decide)).tI (X 10 (by decide)).G hr (X 10 (by decide)).b rfl (A.c 10 (by decide)).g (pa_cons (pv 0) pa_nil)) (pa_cons (pe_newP (A.c 11 (by decide)).oex (X 11 (by decide)).iC (X 11 (by decide)).tI (X 11 (by decide)).G hr (X 11 (by decide)).b rfl (A.c 11 (by decide)).g (pa_cons (pv 0) pa_nil)) (pa_cons (pe_newP (A.c 12 (by decide)).oex (X 12 (by decide)).iC (X 12 (by decide)).tI (X 12 (by decide)).G hr (X 12 (by decide)).b rfl (A.c 12 (by decide)).g (pa_cons (pv 0) pa_nil)) (pa_cons (pe_newP (A.c 13 (by decide)).oex (X 13 (by decide)).iC (X 13 (by decide)).tI (X 13 (by decide)).G hr (X 13 (by decide)).b rfl (A.c 13 (by decide)).g (pa_cons (pv 0) pa_nil)) pa_nil))))))))
 (pss_cons (ps_set (i := 2) c_law_placed.nd rfl (.inl rfl) (pe_op op_cat (pv 2) (pe_lst (pa_cons (pe_newP (A.c 14 (by decide)).oex (X 14 (by decide)).iC (X 14 (by decide)).tI (X 14 (by decide)).G hr (X 14 (by decide)).b rfl (A.c 14 (by decide)).g (pa_cons (pv 0) pa_nil)) (pa_cons (pe_newP (A.c 15 (by decide)).oex (X 15 (by decide)).iC (X 15 (by decide)).tI (X 15 (by decide)).G hr (X 15 (by decide)).b rfl (A.c 15 (by decide)).g (pa_cons (pv 0) pa_nil)) (pa_cons (pe_newP (A.c 16 (by decide)).oex (X 16 (by decide)).iC (X 16 (by decide)).tI (X 16 (by decide)).G hr (X 16 (by decide)).b rfl (A.c 16 (by decide)).g (pa_cons (pv 0) pa_nil)) (pa_cons (pe_newP (A.c 17 (by decide)).oex (X 17 (by decide)).iC (X 17 (by decide)).tI (X 17 (by decide)).G hr (X 17 (by decide)).b rfl (A.c 17 (by decide)).g (pa_cons (pv 0) pa_nil)) (pa_cons (pe_newP (A.c 18 (by decide)).oex (X 18 (by decide)).iC (X 18 (by decide)).tI (X 18 (by decide)).G hr (X 18 (by decide)).b rfl (A.c 18 (by decide)).g (pa_cons (pv 0) pa_nil)) pa_nil))))))))
 (pss_cons (ps_set (i := 2) c_law_placed.nd rfl (.inl rfl) (pe_op op_cat (pv 2) (pe_lst (pa_cons (pe_newP (A.c 19 (by decide)).oex (X 19 (by decide)).iC (X 19 (by decide)).tI (X 19 (by decide)).G hr (X 19 (by decide)).b rfl (A.c 19 (by decide)).g (pa_cons (pv 0) (pa_cons (pv 1) pa_nil))) (pa_cons (pe_newP (A.c 20 (by decide)).oex (X 20 (by decide)).iC (X 20 (by decide)).tI (X 20 (by decide)).G hr (X 20 (by decide)).b rfl (A.c 20 (by decide)).g (pa_cons (pv 0) (pa_cons (pv 1) pa_nil))) (pa_cons (pe_newP (A.c 21 (by decide)).oex (X 21 (by decide)).iC (X 21 (by decide)).tI (X 21 (by decide)).G hr (X 21 (by decide)).b rfl (A.c 21 (by decide)).g (pa_cons (pv 0) (pa_cons (pv 1) pa_nil))) (pa_cons (pe_newP (A.c 22 (by decide)).oex (X 22 (by decide)).iC (X 22 (by decide)).tI (X 22 (by decide)).G hr (X 22 (by decide)).b rfl (A.c 22 (by decide)).g (pa_cons (pv 0) (pa_cons (pv 1) pa_nil))) pa_nil)))))))
 (pss_one (ps_ret (pe_op op_cat (pv 2) (pe_lst (pa_cons (pe_newP (A.c 23 (by decide)).oex (X 23 (by decide)).iC (X 23 (by decide)).tI (X 23 (by decide)).G hr (X 23 (by decide)).b rfl (A.c 23 (by decide)).g (pa_cons (pv 0) pa_nil)) (pa_cons (pe_new0 PySem.F.excBase_ValueError (A.ex 24 (by decide) (by decide)) (A.c 24 (by decide)).g (A.c 24 (by decide)).kC rfl) (pa_cons (pe_new0 PySem.F.excBase_ValueError (A.ex 25 (by decide) (by decide)) (A.c 25 (by decide)).g (A.c 25 (by decide)).kC rfl) (pa_cons (pe_new0 PySem.F.excBase_ValueError (A.ex 26 (by decide) (by decide)) (A.c 26 (by decide)).g (A.c 26 (by decide)).kC rfl) (pa_cons (pe_new0 PySem.F.excBase_ValueError (A.ex 27 (by decide) (by decide)) (A.c 27 (by decide)).g (A.c 27 (by decide)).kC rfl) pa_nil)))))))))))))), ?_⟩
    have hx0 : ∀ {x : Option V}, ([some v, some u, x] : List (Option V))[0]? = some (some v) := rfl
    have hx1 : ∀ {x : Option V}, ([some v, some u, x] : List (Option V))[1]? = some (some u) := rfl
    refine made_first (show EvEs _ _ _ from (eve_cons (eve_1 (f := "given") (j := 0) hx0 (A.c 0 (by decide)).oex (A.no 0 (by decide) _ (by decide)))
          (eve_cons (eve_1 (f := "given") (j := 0) hx0 (A.c 1 (by decide)).oex (A.no 1 (by decide) _ (by decide)))
          (eve_cons (eve_1 (f := "given") (j := 0) hx0 (A.c 2 (by decide)).oex (A.no 2 (by decide) _ (by decide)))
          (eve_cons (eve_1 (f := "given") (j := 0) hx0 (A.c 3 (by decide)).oex (A.no 3 (by decide) _ (by decide)))
          (eve_cons (eve_1 (f := "given") (j := 0) hx0 (A.c 4 (by decide)).oex (A.no 4 (by decide) _ (by decide)))
          eve_nil)))))) (Nat.le_of_ble_eq_true rfl) fun l0 H0 as0 s0 e0 x0 => ?_
    refine made_more s0 e0 x0 (show EvEs _ _ _ from (eve_cons (eve_1 (f := "given") (j := 0) hx0 (A.c 5 (by decide)).oex (A.no 5 (by decide) _ (by decide)))
          (eve_cons (eve_1 (f := "given") (j := 0) hx0 (A.c 6 (by decide)).oex (A.no 6 (by decide) _ (by decide)))
          (eve_cons (eve_1 (f := "given") (j := 0) hx0 (A.c 7 (by decide)).oex (A.no 7 (by decide) _ (by decide)))
          (eve_cons (eve_1 (f := "given") (j := 0) hx0 (A.c 8 (by decide)).oex (A.no 8 (by decide) _ (by decide)))
          eve_nil))))) (Nat.le_of_ble_eq_true rfl) fun l1 H1 as1 s1 e1 x1 => ?_
    refine made_more s1 e1 x1 (show EvEs _ _ _ from (eve_cons (eve_1 (f := "given") (j := 0) hx0 (A.c 9 (by decide)).oex (A.no 9 (by decide) _ (by decide)))
          (eve_cons (eve_1 (f := "given") (j := 0) hx0 (A.c 10 (by decide)).oex (A.no 10 (by decide) _ (by decide)))
          (eve_cons (eve_1 (f := "given") (j := 0) hx0 (A.c 11 (by decide)).oex (A.no 11 (by decide) _ (by decide)))
          (eve_cons (eve_1 (f := "given") (j := 0) hx0 (A.c 12 (by decide)).oex (A.no 12 (by decide) _ (by decide)))
          (eve_cons (eve_1 (f := "given") (j := 0) hx0 (A.c 13 (by decide)).oex (A.no 13 (by decide) _ (by decide)))
          eve_nil)))))) (Nat.le_of_ble_eq_true rfl) fun l2 H2 as2 s2 e2 x2 => ?_
    refine made_more s2 e2 x2 (show EvEs _ _ _ from (eve_cons (eve_1 (f := "given") (j := 0) hx0 (A.c 14 (by decide)).oex (A.no 14 (by decide) _ (by decide)))
          (eve_cons (eve_1 (f := "index") (j := 0) hx0 (A.c 15 (by decide)).oex (A.no 15 (by decide) _ (by decide)))
          (eve_cons (eve_1 (f := "index") (j := 0) hx0 (A.c 16 (by decide)).oex (A.no 16 (by decide) _ (by decide)))
          (eve_cons (eve_1 (f := "index") (j := 0) hx0 (A.c 17 (by decide)).oex (A.no 17 (by decide) _ (by decide)))
          (eve_cons (eve_1 (f := "index") (j := 0) hx0 (A.c 18 (by decide)).oex (A.no 18 (by decide) _ (by decide)))
          eve_nil)))))) (Nat.le_of_ble_eq_true rfl) fun l3 H3 as3 s3 e3 x3 => ?_
    refine made_more s3 e3 x3 (show EvEs _ _ _ from (eve_cons (eve_2 (f := "line") (f' := "place") (j := 0) (j' := 1) hx0 hx1 (A.c 19 (by decide)).oex (A.no 19 (by decide) _ (by decide)) (A.no 19 (by decide) _ (by decide)))
          (eve_cons (eve_2 (f := "line") (f' := "place") (j := 0) (j' := 1) hx0 hx1 (A.c 20 (by decide)).oex (A.no 20 (by decide) _ (by decide)) (A.no 20 (by decide) _ (by decide)))
          (eve_cons (eve_2 (f := "line") (f' := "place") (j := 0) (j' := 1) hx0 hx1 (A.c 21 (by decide)).oex (A.no 21 (by decide) _ (by decide)) (A.no 21 (by decide) _ (by decide)))
          (eve_cons (eve_2 (f := "line") (f' := "place") (j := 0) (j' := 1) hx0 hx1 (A.c 22 (by decide)).oex (A.no 22 (by decide) _ (by decide)) (A.no 22 (by decide) _ (by decide)))
          eve_nil))))) (Nat.le_of_ble_eq_true rfl) fun l4 H4 as4 s4 e4 x4 => ?_
    exact made_last s4 e4 x4 (show EvEs _ _ _ from (eve_cons (eve_1 (f := "ring") (j := 0) hx0 (A.c 23 (by decide)).oex (A.no 23 (by decide) _ (by decide)))
          (eve_cons eve_0
          (eve_cons eve_0
          (eve_cons eve_0
          (eve_cons eve_0
          eve_nil)))))) (Nat.le_of_ble_eq_true rfl) fun l H1 as s e x => q l H1 as s e x

/-! ### asked for its class -/
def EvBs (a C : Addr) (fs : List (Str × V)) (ta : TA) (σ : L2.St) (bs : List Bool) : Prop := ∀ (H : Hp) (Q : List V → Hp → Prop), ExAt H a C fs → Q (bs.map V.bl) H → ta σ H Q
theorem evb_nil {a C : Addr} {fs : List (Str × V)} {σ : L2.St} : EvBs a C fs tNil σ [] := fun H Q _ q => q
theorem evb_cons {a C : Addr} {fs : List (Str × V)} {σ : L2.St} {c : V} {cv : Value} {b : Bool} {ta : TA} {bs : List Bool} (h0 : σ[0]? = some (some (.ref a))) (hc : ∀ u, RelV c u → u = cv) (T : XcI K C) (e : PySem.W.kitOne K (.ref C) cv = some b) (t : EvBs a C fs ta σ bs) :
    EvBs a C fs (tCons (tCB (rIsX K) (tCons (tVar 0) (tCons (tC c) tNil))) ta) σ (b :: bs) := fun H Q x q => ⟨_, h0, a, C, fs, c, cv, b, rfl, hc, T, x, e, t H _ x q⟩
section
variable {a E : Addr} {fs : List (Str × V)} {D : Ends} {H0 : Hp} {ta : TA} {xs ys : List Bool} {σ : L2.St}
theorem bls_first (x : ExAt H0 a E fs) (h : EvBs a E fs ta σ xs) (hl : xs.length ≤ 100) (k : ∀ l H, Same H0 H → H l = some (.lst (xs.map V.bl)) → D.nx (σ.set 1 (some (.ref l))) H) : tAsg (tLst ta) (gName 1) D σ H0 :=
  h H0 _ x ⟨sz63 (by rw [List.length_map]; omega), fun p hp => k p _ (same_new hp) upd_same⟩
theorem bls_cat {H : Hp} {Q : VK} {l : Addr} (hσ : σ[1]? = some (some (.ref l))) (x : ExAt H a E fs) (s : Same H0 H) (e : H l = some (.lst (xs.map V.bl))) (h : EvBs a E fs ta σ ys) (hl : xs.length + ys.length ≤ 100)
    (k : ∀ l H, Same H0 H → H0 l = none → H l = some (.lst ((xs ++ ys).map V.bl)) → Q (.ref l) H) : tOp rCat (tVar 1) (tLst ta) σ H Q := by
  refine ⟨_, hσ, h H _ x ⟨sz63 (by rw [List.length_map]; omega), fun p hp => ?_⟩⟩
  refine ⟨l, p, _, _, rfl, rfl, same_new hp _ _ e, upd_same, sz63 (by rw [List.length_map, List.length_map]; omega), fun m hm => ?_⟩
  refine k m _ (s.trans ((same_new hp).trans (same_new hm))) ((s.trans (same_new hp)).free hm) ?_
  rw [upd_same, List.map_append]
theorem bls_more {H : Hp} {l : Addr} {v0 : V} (x : ExAt H a E fs) (s : Same H0 H) (e : H l = some (.lst (xs.map V.bl))) (h : EvBs a E fs ta [some v0, some (.ref l)] ys) (hl : xs.length + ys.length ≤ 100)
    (k : ∀ l H, Same H0 H → H l = some (.lst ((xs ++ ys).map V.bl)) → D.nx [some v0, some (.ref l)] H) : tAsg (tOp rCat (tVar 1) (tLst ta)) (gName 1) D [some v0, some (.ref l)] H :=
  bls_cat (Q := fun v H1 => gName 1 v [some v0, some (.ref l)] H1 D.nx) rfl x s e h hl fun l' H1 s' _ e' => k l' H1 s' e'
theorem bls_last {H : Hp} {l : Addr} {v0 : V} (x : ExAt H a E fs) (s : Same H0 H) (e : H l = some (.lst (xs.map V.bl))) (h : EvBs a E fs ta [some v0, some (.ref l)] ys) (hl : xs.length + ys.length ≤ 100)
    (k : ∀ l H, Same H0 H → H0 l = none → H l = some (.lst ((xs ++ ys).map V.bl)) → D.rt (.ref l) H) : tRet (tOp rCat (tVar 1) (tLst ta)) D [some v0, some (.ref l)] H :=
  bls_cat (Q := D.rt) rfl x s e h hl k
end
/-- which classes the i-th stands under -/
def unders (i : Nat) : List Bool := (List.range 28).map fun j => decide (j = i) || decide (j = 27)
def spUnder (C : Nat → Addr) : Sp := fun vs H Q _ => ∃ (a : Addr) (i : Nat) (fs : List (Str × V)), vs = [.ref a] ∧ i < 28 ∧ ExAt H a (C i) fs ∧
  ∀ (l : Addr) (H' : Hp), Same H H' → H l = none → H' l = some (.lst ((unders i).map V.bl)) → Q (.ref l) H'
theorem ok_under {f : Addr} {fd : FuncData} (F : Fun K "_law_under" "_law_under" s_law_under f fd) (A : AllC K mg C) (M : Mb mg) : FnOk P w K mg base CX0 1 f fd ["made"] (spUnder C) := by
  refine F.ok c_law_under (fun vs H Q E h => ?_) (fun cdv _ outer s H vs Q E hr h => ?_)
  · obtain ⟨a, i, fs, rfl, _⟩ := h
    rfl
  · obtain ⟨a, i, fs, rfl, hi, hX, q⟩ := h
    have T := A.c i hi
    refine ⟨_, (pss_cons (ps_set (i := 1) c_law_under.nd rfl (.inl rfl) (pe_lst (pa_cons (pe_callB call_isX (by rfl) M.isinstance (by decide +kernel) (pa_cons (pv 0) (pa_cons (pe_glob (v := .ref (C 0)) rfl (A.c 0 (by decide)).g rfl) pa_nil))) (pa_cons (pe_callB call_isX (by rfl) M.isinstance (by decide +kernel) (pa_cons (pv 0) (pa_cons (pe_glob (v := .ref (C 1)) rfl (A.c 1 (by decide)).g rfl) pa_nil))) (pa_cons (pe_callB call_isX (by rfl) M.isinstance (by decide +kernel) (pa_cons (pv 0) (pa_cons (pe_glob (v := .ref (C 2)) rfl (A.c 2 (by decide)).g rfl) pa_nil))) pa_nil)))))
 (pss_cons (ps_set (i := 1) c_law_under.nd rfl (.inl rfl) (pe_op op_cat (pv 1) (pe_lst (pa_cons (pe_callB call_isX (by rfl) M.isinstance (by decide +kernel) (pa_cons (pv 0) (pa_cons (pe_glob (v := .ref (C 3)) rfl (A.c 3 (by decide)).g rfl) pa_nil))) (pa_cons (pe_callB call_isX (by rfl) M.isinstance (by decide +kernel) (pa_cons (pv 0) (pa_cons (pe_glob (v := .ref (C 4)) rfl (A.c 4 (by decide)).g rfl) pa_nil))) (pa_cons (pe_callB call_isX (by rfl) M.isinstance (by decide +kernel) (pa_cons (pv 0) (pa_cons (pe_glob (v := .ref (C 5)) rfl (A.c 5 (by decide)).g rfl) pa_nil))) pa_nil))))))
 (pss_cons (ps_set (i := 1) c_law_under.nd rfl (.inl rfl) (pe_op op_cat (pv 1) (pe_lst (pa_cons (pe_callB call_isX (by rfl) M.isinstance (by decide +kernel) (pa_cons (pv 0) (pa_cons (pe_glob (v := .ref (C 6)) rfl (A.c 6 (by decide)).g rfl) pa_nil))) (pa_cons (pe_callB call_isX (by rfl) M.isinstance (by decide +kernel) (pa_cons (pv 0) (pa_cons (pe_glob (v := .ref (C 7)) rfl (A.c 7 (by decide)).g rfl) pa_nil))) (pa_cons (pe_callB call_isX (by rfl) M.isinstance (by decide +kernel) (pa_cons (pv 0) (pa_cons (pe_glob (v := .ref (C 8)) rfl (A.c 8 (by decide)).g rfl) pa_nil))) pa_nil))))))
 (pss_cons (ps_set (i := 1) c_law_under.nd rfl (.inl rfl) (pe_op op_cat (pv 1) (pe_lst (pa_cons (pe_callB call_isX (by rfl) M.isinstance (by decide +kernel) (pa_cons (pv 0) (pa_cons (pe_glob (v := .ref (C 9)) rfl (A.c 9 (by decide)).g rfl) pa_nil))) (pa_cons (pe_callB call_isX (by rfl) M.isinstance (by decide +kernel) (pa_cons (pv 0) (pa_cons (pe_glob (v := .ref (C 10)) rfl (A.c 10 (by decide)).g rfl) pa_nil))) pa_nil)))))
 (pss_cons (ps_set (i := 1) c_law_under.nd rfl (.inl rfl) (pe_op op_cat (pv 1) (pe_lst (pa_cons (pe_callB call_isX (by rfl) M.isinstance (by decide +kernel) (pa_cons (pv 0) (pa_cons (pe_glob (v := .ref (C 11)) rfl (A.c 11 (by decide)).g rfl) pa_nil))) (pa_cons (pe_callB call_isX (by rfl) M.isinstance (by decide +kernel) (pa_cons (pv 0) (pa_cons (pe_glob (v := .ref (C 12)) rfl (A.c 12 (by decide)).g rfl) pa_nil))) (pa_cons (pe_callB call_isX (by rfl) M.isinstance (by decide +kernel) (pa_cons (pv 0) (pa_cons (pe_glob (v := .ref (C 13)) rfl (A.c 13 (by decide)).g rfl) pa_nil))) pa_nil))))))
 (pss_cons (ps_set (i := 1) c_law_under.nd rfl (.inl rfl) (pe_op op_cat (pv 1) (pe_lst (pa_cons (pe_callB call_isX (by rfl) M.isinstance (by decide +kernel) (pa_cons (pv 0) (pa_cons (pe_glob (v := .ref (C 14)) rfl (A.c 14 (by decide)).g rfl) pa_nil))) (pa_cons (pe_callB call_isX (by rfl) M.isinstance (by decide +kernel) (pa_cons (pv 0) (pa_cons (pe_glob (v := .ref (C 15)) rfl (A.c 15 (by decide)).g rfl) pa_nil))) (pa_cons (pe_callB call_isX (by rfl) M.isinstance (by decide +kernel) (pa_cons (pv 0) (pa_cons (pe_glob (v := .ref (C 16)) rfl (A.c 16 (by decide)).g rfl) pa_nil))) pa_nil))))))
 (pss_cons (ps_set (i := 1) c_law_under.nd rfl (.inl rfl) (pe_op op_cat (pv 1) (pe_lst (pa_cons (pe_callB call_isX (by rfl) M.isinstance (by decide +kernel) (pa_cons (pv 0) (pa_cons (pe_glob (v := .ref (C 17)) rfl (A.c 17 (by decide)).g rfl) pa_nil))) (pa_cons (pe_callB call_isX (by rfl) M.isinstance (by decide +kernel) (pa_cons (pv 0) (pa_cons (pe_glob (v := .ref (C 18)) rfl (A.c 18 (by decide)).g rfl) pa_nil))) (pa_cons (pe_callB call_isX (by rfl) M.isinstance (by decide +kernel) (pa_cons (pv 0) (pa_cons (pe_glob (v := .ref (C 19)) rfl (A.c 19 (by decide)).g rfl) pa_nil))) pa_nil))))))
 (pss_cons (ps_set (i := 1) c_law_under.nd rfl (.inl rfl) (pe_op op_cat (pv 1) (pe_lst (pa_cons (pe_callB call_isX (by rfl) M.isinstance (by decide +kernel) (pa_cons (pv 0) (pa_cons (pe_glob (v := .ref (C 20)) rfl (A.c 20 (by decide)).g rfl) pa_nil))) (pa_cons (pe_callB call_isX (by rfl) M.isinstance (by decide +kernel) (pa_cons (pv 0) (pa_cons (pe_glob (v := .ref (C 21)) rfl (A.c 21 (by decide)).g rfl) pa_nil))) (pa_cons (pe_callB call_isX (by rfl) M.isinstance (by decide +kernel) (pa_cons (pv 0) (pa_cons (pe_glob (v := .ref (C 22)) rfl (A.c 22 (by decide)).g rfl) pa_nil))) pa_nil))))))
 (pss_cons (ps_set (i := 1) c_law_under.nd rfl (.inl rfl) (pe_op op_cat (pv 1) (pe_lst (pa_cons (pe_callB call_isX (by rfl) M.isinstance (by decide +kernel) (pa_cons (pv 0) (pa_cons (pe_glob (v := .ref (C 23)) rfl (A.c 23 (by decide)).g rfl) pa_nil))) (pa_cons (pe_callB call_isX (by rfl) M.isinstance (by decide +kernel) (pa_cons (pv 0) (pa_cons (pe_glob (v := .ref (C 24)) rfl (A.c 24 (by decide)).g rfl) pa_nil))) (pa_cons (pe_callB call_isX (by rfl) M.isinstance (by decide +kernel) (pa_cons (pv 0) (pa_cons (pe_glob (v := .ref (C 25)) rfl (A.c 25 (by decide)).g rfl) pa_nil))) pa_nil))))))
 (pss_one (ps_ret (pe_op op_cat (pv 1) (pe_lst (pa_cons (pe_callB call_isX (by rfl) M.isinstance (by decide +kernel) (pa_cons (pv 0) (pa_cons (pe_glob (v := .ref (C 26)) rfl (A.c 26 (by decide)).g rfl) pa_nil))) (pa_cons (pe_callB call_isX (by rfl) M.isinstance (by decide +kernel) (pa_cons (pv 0) (pa_cons (pe_glob (v := .ref (C 27)) rfl (A.c 27 (by decide)).g rfl) pa_nil))) pa_nil))))))))))))))), ?_⟩
    have hx0 : ∀ {x : Option V}, ([some (.ref a), x] : List (Option V))[0]? = some (some (.ref a)) := rfl
    refine bls_first hX (evb_cons (b := _) hx0 (fun _ r => r) (T.xci A.G) (T.kit (A.c 0 (by decide)) (A.c 27 (by decide)) hi (by decide)) (evb_cons (b := _) hx0 (fun _ r => r) (T.xci A.G) (T.kit (A.c 1 (by decide)) (A.c 27 (by decide)) hi (by decide)) (evb_cons (b := _) hx0 (fun _ r => r) (T.xci A.G) (T.kit (A.c 2 (by decide)) (A.c 27 (by decide)) hi (by decide)) evb_nil))) (Nat.le_of_ble_eq_true rfl) fun l0 H0 s0 e0 => ?_
    refine bls_more (hX.same s0) s0 e0 (evb_cons (b := _) hx0 (fun _ r => r) (T.xci A.G) (T.kit (A.c 3 (by decide)) (A.c 27 (by decide)) hi (by decide)) (evb_cons (b := _) hx0 (fun _ r => r) (T.xci A.G) (T.kit (A.c 4 (by decide)) (A.c 27 (by decide)) hi (by decide)) (evb_cons (b := _) hx0 (fun _ r => r) (T.xci A.G) (T.kit (A.c 5 (by decide)) (A.c 27 (by decide)) hi (by decide)) evb_nil))) (Nat.le_of_ble_eq_true rfl) fun l1 H1 s1 e1 => ?_
    refine bls_more (hX.same s1) s1 e1 (evb_cons (b := _) hx0 (fun _ r => r) (T.xci A.G) (T.kit (A.c 6 (by decide)) (A.c 27 (by decide)) hi (by decide)) (evb_cons (b := _) hx0 (fun _ r => r) (T.xci A.G) (T.kit (A.c 7 (by decide)) (A.c 27 (by decide)) hi (by decide)) (evb_cons (b := _) hx0 (fun _ r => r) (T.xci A.G) (T.kit (A.c 8 (by decide)) (A.c 27 (by decide)) hi (by decide)) evb_nil))) (Nat.le_of_ble_eq_true rfl) fun l2 H2 s2 e2 => ?_
    refine bls_more (hX.same s2) s2 e2 (evb_cons (b := _) hx0 (fun _ r => r) (T.xci A.G) (T.kit (A.c 9 (by decide)) (A.c 27 (by decide)) hi (by decide)) (evb_cons (b := _) hx0 (fun _ r => r) (T.xci A.G) (T.kit (A.c 10 (by decide)) (A.c 27 (by decide)) hi (by decide)) evb_nil)) (Nat.le_of_ble_eq_true rfl) fun l3 H3 s3 e3 => ?_
    refine bls_more (hX.same s3) s3 e3 (evb_cons (b := _) hx0 (fun _ r => r) (T.xci A.G) (T.kit (A.c 11 (by decide)) (A.c 27 (by decide)) hi (by decide)) (evb_cons (b := _) hx0 (fun _ r => r) (T.xci A.G) (T.kit (A.c 12 (by decide)) (A.c 27 (by decide)) hi (by decide)) (evb_cons (b := _) hx0 (fun _ r => r) (T.xci A.G) (T.kit (A.c 13 (by decide)) (A.c 27 (by decide)) hi (by decide)) evb_nil))) (Nat.le_of_ble_eq_true rfl) fun l4 H4 s4 e4 => ?_
    refine bls_more (hX.same s4) s4 e4 (evb_cons (b := _) hx0 (fun _ r => r) (T.xci A.G) (T.kit (A.c 14 (by decide)) (A.c 27 (by decide)) hi (by decide)) (evb_cons (b := _) hx0 (fun _ r => r) (T.xci A.G) (T.kit (A.c 15 (by decide)) (A.c 27 (by decide)) hi (by decide)) (evb_cons (b := _) hx0 (fun _ r => r) (T.xci A.G) (T.kit (A.c 16 (by decide)) (A.c 27 (by decide)) hi (by decide)) evb_nil))) (Nat.le_of_ble_eq_true rfl) fun l5 H5 s5 e5 => ?_
    refine bls_more (hX.same s5) s5 e5 (evb_cons (b := _) hx0 (fun _ r => r) (T.xci A.G) (T.kit (A.c 17 (by decide)) (A.c 27 (by decide)) hi (by decide)) (evb_cons (b := _) hx0 (fun _ r => r) (T.xci A.G) (T.kit (A.c 18 (by decide)) (A.c 27 (by decide)) hi (by decide)) (evb_cons (b := _) hx0 (fun _ r => r) (T.xci A.G) (T.kit (A.c 19 (by decide)) (A.c 27 (by decide)) hi (by decide)) evb_nil))) (Nat.le_of_ble_eq_true rfl) fun l6 H6 s6 e6 => ?_
    refine bls_more (hX.same s6) s6 e6 (evb_cons (b := _) hx0 (fun _ r => r) (T.xci A.G) (T.kit (A.c 20 (by decide)) (A.c 27 (by decide)) hi (by decide)) (evb_cons (b := _) hx0 (fun _ r => r) (T.xci A.G) (T.kit (A.c 21 (by decide)) (A.c 27 (by decide)) hi (by decide)) (evb_cons (b := _) hx0 (fun _ r => r) (T.xci A.G) (T.kit (A.c 22 (by decide)) (A.c 27 (by decide)) hi (by decide)) evb_nil))) (Nat.le_of_ble_eq_true rfl) fun l7 H7 s7 e7 => ?_
    refine bls_more (hX.same s7) s7 e7 (evb_cons (b := _) hx0 (fun _ r => r) (T.xci A.G) (T.kit (A.c 23 (by decide)) (A.c 27 (by decide)) hi (by decide)) (evb_cons (b := _) hx0 (fun _ r => r) (T.xci A.G) (T.kit (A.c 24 (by decide)) (A.c 27 (by decide)) hi (by decide)) (evb_cons (b := _) hx0 (fun _ r => r) (T.xci A.G) (T.kit (A.c 25 (by decide)) (A.c 27 (by decide)) hi (by decide)) evb_nil))) (Nat.le_of_ble_eq_true rfl) fun l8 H8 s8 e8 => ?_
    exact bls_last (hX.same s8) s8 e8 (evb_cons (b := _) hx0 (fun _ r => r) (T.xci A.G) (T.kit (A.c 26 (by decide)) (A.c 27 (by decide)) hi (by decide)) (evb_cons (b := _) hx0 (fun _ r => r) (T.xci A.G) (T.kit (A.c 27 (by decide)) (A.c 27 (by decide)) hi (by decide)) evb_nil)) (Nat.le_of_ble_eq_true rfl) fun l H1 s n e => q l H1 s n e

def spPlain (C : Nat → Addr) : Sp := fun vs H Q _ => ∃ (a : Addr) (i : Nat) (fs : List (Str × V)), vs = [.ref a] ∧ i < 28 ∧ ExAt H a (C i) fs ∧ Q (.bl true) H
theorem ok_plain {f : Addr} {fd : FuncData} (F : Fun K "_law_is_plain" "_law_is_plain" s_law_is_plain f fd) (A : AllC K mg C) (M : Mb mg) (B : Bc mg) : FnOk P w K mg base CX0 1 f fd ["made"] (spPlain C) := by
  refine F.ok c_law_is_plain (fun vs H Q E h => ?_) (fun cdv _ outer s H vs Q E hr h => ?_)
  · obtain ⟨a, i, fs, rfl, _⟩ := h
    rfl
  · obtain ⟨a, i, fs, rfl, hi, hX, q⟩ := h
    have T := A.c i hi
    refine ⟨_, (pss_cons (ps_if (PW.pt (pw_or (pt_not (pt_val (pe_callB call_isX (by rfl) M.isinstance (by decide +kernel) (pa_cons (pv 0) (pa_cons (pe_bltn (v := .ty "ValueError") (by rfl) B.ValueError (by decide +kernel) rfl) pa_nil))))) (pw_or (pt_not (pt_val (pe_callB call_isX (by rfl) M.isinstance (by decide +kernel) (pa_cons (pv 0) (pa_cons (pe_bltn (v := .ty "Exception") (by rfl) B.Exception (by decide +kernel) rfl) pa_nil))))) (pw_or1 (pt_val (pe_callB call_isX (by rfl) M.isinstance (by decide +kernel) (pa_cons (pv 0) (pa_cons (pe_bltn (v := .ty "LookupError") (by rfl) B.LookupError (by decide +kernel) rfl) pa_nil))))))))
 (pss_one (ps_ret pe_bl))
 pss_nil)
 (pss_cons (ps_if (PW.pt (pw_or (pt_val (pe_callB call_isX (by rfl) M.isinstance (by decide +kernel) (pa_cons (pv 0) (pa_cons (pe_bltn (v := .ty "ArithmeticError") (by rfl) B.ArithmeticError (by decide +kernel) rfl) pa_nil)))) (pw_or (pt_val (pe_callB call_isX (by rfl) M.isinstance (by decide +kernel) (pa_cons (pv 0) (pa_cons (pe_bltn (v := .ty "TypeError") (by rfl) B.TypeError (by decide +kernel) rfl) pa_nil)))) (pw_or1 (pt_val (pe_callB call_isX (by rfl) M.isinstance (by decide +kernel) (pa_cons (pv 0) (pa_cons (pe_bltn (v := .ty "RuntimeError") (by rfl) B.RuntimeError (by decide +kernel) rfl) pa_nil))))))))
 (pss_one (ps_ret pe_bl))
 pss_nil)
 (pss_one (ps_ret (pe_and (pe_not (pe_callB call_isX (by rfl) M.isinstance (by decide +kernel) (pa_cons (pv 0) (pa_cons (pe_bltn (v := .ty "AttributeError") (by rfl) B.AttributeError (by decide +kernel) rfl) pa_nil)))) (pe_one (pe_not (pe_callB call_isX (by rfl) M.isinstance (by decide +kernel) (pa_cons (pv 0) (pa_cons (pe_bltn (v := .ty "StopIteration") (by rfl) B.StopIteration (by decide +kernel) rfl) pa_nil)))))))))), ?_⟩
    refine ⟨_, rfl, ?_⟩
    refine ⟨a, C i, fs, .ty "ValueError", .type "ValueError", true, rfl, fun _ r => r, T.xci A.G, hX, T.kitB (by decide +kernel) (by decide +kernel), ?_⟩
    refine ⟨_, rfl, iteF ?_⟩
    refine ⟨_, rfl, ?_⟩
    refine ⟨a, C i, fs, .ty "Exception", .type "Exception", true, rfl, fun _ r => r, T.xci A.G, hX, T.kitB (by decide +kernel) (by decide +kernel), ?_⟩
    refine ⟨_, rfl, iteF ?_⟩
    refine ⟨_, rfl, ?_⟩
    refine ⟨a, C i, fs, .ty "LookupError", .type "LookupError", false, rfl, fun _ r => r, T.xci A.G, hX, T.kitB (by decide +kernel) (by decide +kernel), ?_⟩
    refine ⟨_, rfl, iteF ?_⟩
    refine ⟨_, rfl, ?_⟩
    refine ⟨a, C i, fs, .ty "ArithmeticError", .type "ArithmeticError", false, rfl, fun _ r => r, T.xci A.G, hX, T.kitB (by decide +kernel) (by decide +kernel), ?_⟩
    refine ⟨_, rfl, iteF ?_⟩
    refine ⟨_, rfl, ?_⟩
    refine ⟨a, C i, fs, .ty "TypeError", .type "TypeError", false, rfl, fun _ r => r, T.xci A.G, hX, T.kitB (by decide +kernel) (by decide +kernel), ?_⟩
    refine ⟨_, rfl, iteF ?_⟩
    refine ⟨_, rfl, ?_⟩
    refine ⟨a, C i, fs, .ty "RuntimeError", .type "RuntimeError", false, rfl, fun _ r => r, T.xci A.G, hX, T.kitB (by decide +kernel) (by decide +kernel), ?_⟩
    refine ⟨_, rfl, iteF ?_⟩
    refine ⟨_, rfl, ?_⟩
    refine ⟨a, C i, fs, .ty "AttributeError", .type "AttributeError", false, rfl, fun _ r => r, T.xci A.G, hX, T.kitB (by decide +kernel) (by decide +kernel), ?_⟩
    refine ⟨_, rfl, _, rfl, iteT ?_⟩
    refine ⟨_, rfl, ?_⟩
    refine ⟨a, C i, fs, .ty "StopIteration", .type "StopIteration", false, rfl, fun _ r => r, T.xci A.G, hX, T.kitB (by decide +kernel) (by decide +kernel), ?_⟩
    exact ⟨_, rfl, q⟩
end
end Kx
/-! What each error keeps; the law. -/
namespace Kx
open PySem PySem.Spec PyProof.Rows L2 Bw
abbrev s_law_keeps : Stmt := topS 37
abbrev n_law_keeps : List Str := ["made", "here", "there", "spot", "each", "at", "told"]
theorem c_law_keeps : FnScope n_law_keeps ["made", "here", "there"] (defScope s_law_keeps) :=
  ⟨rfl, rfl, rfl, by decide +kernel, rfl, by decide +kernel, by decide +kernel⟩

abbrev s_law_right : Stmt := topS 39
abbrev n_law_right : List Str := ["well", "here", "there", "named", "placed"]
theorem c_law_right : FnScope n_law_right ["well"] (defScope s_law_right) :=
  ⟨rfl, rfl, rfl, by decide +kernel, rfl, by decide +kernel, by decide +kernel⟩

abbrev slaw : Stmt := topS 40
abbrev nlaw : List Str := ["script", "well", "turn"]
theorem claw : FnScope nlaw ["script"] (defScope slaw) :=
  ⟨rfl, rfl, rfl, by decide +kernel, rfl, by decide +kernel, by decide +kernel⟩


/-! ### lengths of what is printed -/
theorem from_len : ∀ (ts : List Str) (k : Nat) (acc : Str), (textFrom k acc ts).length ≤ acc.length + piled ts
  | [], k, acc => by
    show acc.length ≤ _
    rw [piled_nil]
    omega
  | t :: ts, k, acc => by
    show (textFrom (k + 1) (acc ++ (if k > 0 then ", " else "" : String) ++ t) ts).length ≤ _
    have h := from_len ts (k + 1) (acc ++ (if k > 0 then ", " else "" : String) ++ t)
    have e : (((if k > 0 then ", " else "" : String) : Str)).length ≤ 2 := by split <;> decide +kernel
    rw [strLen_append, strLen_append] at h
    rw [piled_cons]
    omega
theorem list_len (ts : List Str) : (listText ts).length ≤ 2 + piled ts := by
  have h := from_len ts 0 "["
  have e : (("[" : String) : Str).length = 1 := by decide +kernel
  have e2 : (("]" : String) : Str).length = 1 := by decide +kernel
  unfold listText
  rw [strLen_append]
  omega
theorem piled_le {n : Nat} : ∀ {ts : List Str}, (∀ t ∈ ts, t.length ≤ n) → piled ts ≤ (n + 2) * ts.length
  | [], _ => by rw [piled_nil]; omega
  | t :: ts, h => by
    have h1 := h t List.mem_cons_self
    have h2 := piled_le (n := n) (ts := ts) fun x hx => h x (List.mem_cons_of_mem _ hx)
    rw [piled_cons, List.length_cons, Nat.mul_succ]
    omega
theorem shownAll_map : ∀ ds : List PyData, PyData.shownAll ds = ds.map PyData.shown
  | [] => by simp [PyData.shownAll]
  | d :: ds => by simp [PyData.shownAll, shownAll_map ds]
theorem shown_list_le {n m : Nat} {ds : List PyData} (h : ∀ d ∈ ds, d.shown.length ≤ n) (hl : ds.length ≤ m) : (PyData.list ds).shown.length ≤ 2 + (n + 2) * m := by
  simp only [PyData.shown]
  have h1 := list_len (PyData.shownAll ds)
  have h2 : piled (PyData.shownAll ds) ≤ (n + 2) * (PyData.shownAll ds).length := piled_le fun t ht => by
    rw [shownAll_map] at ht
    obtain ⟨d, hd, rfl⟩ := List.mem_map.mp ht
    exact h d hd
  have h3 : (PyData.shownAll ds).length = ds.length := by rw [shownAll_map, List.length_map]
  rw [h3] at h2
  have h4 : (n + 2) * ds.length ≤ (n + 2) * m := Nat.mul_le_mul_left _ hl
  omega
theorem showAll_of : ∀ {ds : List PyData}, (∀ d ∈ ds, d.showable = true) → PyData.showableAll ds = true
  | [], _ => by simp [PyData.showableAll]
  | d :: ds, h => by
    simp only [PyData.showableAll, Bool.and_eq_true]
    exact ⟨h d List.mem_cons_self, showAll_of fun x hx => h x (List.mem_cons_of_mem _ hx)⟩
theorem depthAll_le {n : Nat} : ∀ {ds : List PyData}, (∀ d ∈ ds, d.depth ≤ n) → PyData.depthAll ds ≤ n
  | [], _ => by simp [PyData.depthAll]
  | d :: ds, h => by
    simp only [PyData.depthAll]
    have h1 := h d List.mem_cons_self
    have h2 := depthAll_le (n := n) (ds := ds) fun x hx => h x (List.mem_cons_of_mem _ hx)
    omega
theorem repr_parts {ds : List PyData} {n : Nat} (h : ∀ d ∈ ds, d.showable = true ∧ d.shown.length ≤ n ∧ d.depth ≤ 9) (hn : n ≤ 100000) (hl : ds.length ≤ 100) :
    PyData.showableAll ds = true ∧ (PyData.list ds).shown.length ≤ sizeLine ∧ (PyData.list ds).depth ≤ 60 := by
  refine ⟨showAll_of fun d m => (h d m).1, ?_, ?_⟩
  · have h1 := shown_list_le (m := 100) (fun d m => (h d m).2.1) hl
    rw [sizeLine_eq]
    have h2 : (n + 2) * 100 ≤ 100002 * 100 := Nat.mul_le_mul_right _ (by omega)
    omega
  · simp only [PyData.depth]
    have h1 := depthAll_le (n := 9) fun d m => (h d m).2.2
    omega
theorem bools_ok : ∀ bs : List Bool, ∀ d ∈ bs.map PyData.bool, d.showable = true ∧ d.shown.length ≤ 5 ∧ d.depth ≤ 9 := fun bs d hd => by
  obtain ⟨b, _, rfl⟩ := List.mem_map.mp hd
  cases b
  · exact ⟨by decide +kernel, by decide +kernel, by decide +kernel⟩
  · exact ⟨by decide +kernel, by decide +kernel, by decide +kernel⟩
theorem rep_ok {d : PyData} {n : Nat} (h : d.showable = true ∧ d.shown.length ≤ n ∧ d.depth ≤ 9) (k : Nat) : ∀ x ∈ List.replicate k d, x.showable = true ∧ x.shown.length ≤ n ∧ x.depth ≤ 9 := fun x hx => by
  rw [List.eq_of_mem_replicate hx]
  exact h

/-! ### a comprehension that gives the same thing at each turn -/
mutual
theorem dq_live {W : Addr → Prop} {H : Hp} {D : Addr} (n : H D = none) : ∀ {v : V} {d : PyData}, Dq W H v d → Dq (fun a => W a ∨ a = D) H v d
  | _, _, .non => .non
  | _, _, .bl b => .bl b
  | _, _, .int i => .int i
  | _, _, .str x => .str x
  | _, _, .lst w e h => .lst (fun z => z.elim w fun q => by rw [q, n] at e; cases e) e (dqAll_live n h)
  | _, _, .tup w e h => .tup (fun z => z.elim w fun q => by rw [q, n] at e; cases e) e (dqAll_live n h)
  | _, _, .dct w e h => .dct (fun z => z.elim w fun q => by rw [q, n] at e; cases e) e (dqAll_live n h)
theorem dqAll_live {W : Addr → Prop} {H : Hp} {D : Addr} (n : H D = none) : ∀ {vs : List V} {ds : List PyData}, DqAll W H vs ds → DqAll (fun a => W a ∨ a = D) H vs ds
  | _, _, .nil => .nil
  | _, _, .cons h t => .cons (dq_live n h) (dqAll_live n t)
end
theorem rep_snoc {α : Type} (d : α) : ∀ n : Nat, List.replicate (n + 1) d = List.replicate n d ++ [d] := fun n => List.replicate_succ'
theorem const_lc {W : Addr → Prop} {H1 : Hp} {D c : Addr} {bs : List Addr} {d : PyData} {te : TE} {σ : L2.St} {vs : List Nat} {K : PySem.W.Frag} {Qd : Hp → Prop} {j : Nat}
    (nD : H1 D = none) (hc : H1 c = some (.lst (bs.map V.ref))) (hb : bs.length ≤ 100)
    (hw : ∀ x, wipe ((wipe σ vs).set j (some x)) vs = wipe σ vs)
    (turn : ∀ b ∈ bs, ∀ (H : Hp) (Q : VK), Same H1 H → H D ≠ none → (∀ y H', Same H H' → Dq (fun a => W a ∨ a = D) H' y d → Q y H') → te ((wipe σ vs).set j (some (.ref b))) H Q)
    (done : ∀ H acc, Same H1 H → H D = some (.lst acc) → DqAll (fun a => W a ∨ a = D) H acc (List.replicate bs.length d) → Qd H) :
    ∃ W : Nat → Nat → Hp → Prop, (∃ m, W 0 m (upd H1 D (.lst []))) ∧ ∀ i m H, W i m H →
      ((Itl K c).stop i H ∧ Qd H) ∨ ((Itl K c).go i H ∧ ∃ Nx : Hp → Prop, (∀ H', Nx H' → ∃ m', m' < m ∧ W (i + 1) m' H') ∧ ∀ x H', (Itl K c).yld i H x H' → gName j x (wipe σ vs) H' fun σ2 H2 => wipe σ2 vs = wipe σ vs ∧ tYes σ2 H2 fun b H3 =>
        if b = true then te σ2 H3 fun y H4 => ∃ acc, H4 D = some (.lst acc) ∧ acc.length < sizeLine ∧ Nx (upd H4 D (.lst (acc ++ [y]))) else Nx H3) := by
  have s0 : Same H1 (upd H1 D (.lst [])) := same_new nD
  refine lc_list (K := K) (a := c) (xs := bs.map V.ref) (fun i H => ∃ acc, Same H1 H ∧ H D = some (.lst acc) ∧ DqAll (fun a => W a ∨ a = D) H acc (List.replicate i d)) ⟨[], s0, upd_same, .nil⟩
    (fun i H _ ⟨_, s, _⟩ => .inl (.inl (s _ _ hc))) ?_ (fun H ⟨acc, s, e, q⟩ => done H acc s e (by rw [List.length_map] at q; exact q))
  rintro i x H hi ⟨acc, s, e, q⟩
  rw [List.getElem?_map] at hi
  have hil : i < bs.length := by
    cases z : bs[i]? with
    | none =>
      rw [z] at hi
      cases hi
    | some b => exact (List.getElem?_eq_some_iff.mp z).1
  obtain ⟨b, hbm, rfl⟩ : ∃ b ∈ bs, x = .ref b := by
    rw [List.getElem?_eq_getElem hil] at hi
    exact ⟨bs[i], List.getElem_mem _, (Option.some.inj hi).symm⟩
  refine ⟨hw _, ?_⟩
  unfold tYes
  dsimp only
  rw [if_pos rfl]
  refine turn b hbm H _ s (by rw [e]; exact fun z => nomatch z) fun y H' s' dy => ⟨acc, s' _ _ e, sz63' (by have := q.length; rw [List.length_replicate] at this; omega), acc ++ [y], ?_, upd_same, ?_⟩
  · exact same_mut (s.trans s') nD
  · have kD : Kp (fun a => W a ∨ a = D) H' (upd H' D (.lst (acc ++ [y]))) := Kp.mut (.inr rfl)
    rw [rep_snoc]
    exact ((q.keep (Kp.same s')).keep kD).app (.cons (dy.keep kD) .nil)

/-! ### what each keeps -/
theorem cut_to {xs : List V} {n : Nat} (h : n ≤ xs.length) : cutV xs none (some (n : Int)) = xs.take n := by
  unfold cutV
  rw [HT.sIx_none, HT.sIx_nat, List.drop_zero, Nat.sub_zero, Nat.min_eq_left h]
theorem cut_mid {xs : List V} {m n : Nat} (h : n ≤ xs.length) (hm : m ≤ n) : cutV xs (some (m : Int)) (some (n : Int)) = (xs.drop m).take (n - m) := by
  unfold cutV
  rw [HT.sIx_nat, HT.sIx_nat, Nat.min_eq_left h, Nat.min_eq_left (Nat.le_trans hm h)]
theorem exAll_at {H : Hp} : ∀ {as : List Addr} {xs : List Xc} {i : Nat} {a : Addr}, ExAll H as xs → as[i]? = some a → ∃ x, xs[i]? = some x ∧ ExAt H a x.1 x.2
  | _, _, _, _, .nil, e => by simp at e
  | _, _, 0, _, .cons h _, e => by
    simp at e
    subst e
    exact ⟨_, rfl, h⟩
  | _, _, i + 1, _, .cons _ t, e => exAll_at (i := i) t e
theorem each_at {C : Nat → Addr} {v u : V} {i : Nat} {x : Xc} (h : (eachOf C v u)[i]? = some x) : i < 28 ∧ x = (C i, match fl i with
  | [f] => [(f, v)]
  | [f, f'] => [(f', u), (f, v)]
  | _ => []) := by
  unfold eachOf at h
  rw [List.getElem?_map] at h
  have hi : i < 28 := by
    cases z : (List.range 28)[i]? with
    | none =>
      rw [z] at h
      cases h
    | some b =>
      have := (List.getElem?_eq_some_iff.mp z).1
      rw [List.length_range] at this
      exact this
  rw [List.getElem?_range hi] at h
  exact ⟨hi, (Option.some.inj h).symm⟩
/-- the field f of the error at b is v -/
def Fld (H : Hp) (K : PySem.W.Frag) (b : Addr) (f : Str) (v : V) : Prop := ∃ (C d : Addr) (fs : List (Str × V)), XcI K C ∧ PySem.W.findIn K (.ref C) f = some none ∧ H b = some (exo b C (some d)) ∧ H d = some (exd d fs) ∧ fs.lookup f = some v
theorem Fld.same {H H' : Hp} {K : PySem.W.Frag} {b : Addr} {f : Str} {v : V} (s : Same H H') (h : Fld H K b f v) : Fld H' K b f v := by
  obtain ⟨C, d, fs, T, no, e, ed, l⟩ := h
  exact ⟨C, d, fs, T, no, s _ _ e, s _ _ ed, l⟩
theorem Fld.of {K : PySem.W.Frag} {mg : Str → Option Value} {C : Nat → Addr} {H : Hp} {i : Nat} {b : Addr} {f : Str} {v : V} {fs : List (Str × V)} (A : AllC K mg C) (hi : i < 24) (hf : f ∈ fl i) (h : ExAt H b (C i) fs) (l : fs.lookup f = some v) : Fld H K b f v := by
  rcases h with ⟨e, _⟩ | ⟨d, _, e, ed⟩
  · rw [e] at l
    cases l
  · exact ⟨C i, d, fs, (A.c i (by omega)).xci A.G, A.no i hi f hf, e, ed, l⟩
theorem exf_fld {H : Hp} {K : PySem.W.Frag} {b : Addr} {f : Str} {v : V} {te : TE} {σ : L2.St} {Q : VK} (h : Fld H K b f v) (ht : ∀ Q : VK, Q (.ref b) H → te σ H Q) (q : Q v H) : tExf K f te σ H Q := by
  obtain ⟨C, d, fs, T, no, e, ed, l⟩ := h
  exact ht _ ⟨b, C, d, fs, v, rfl, T, no, e, ed, l, q⟩
theorem look1 (f : Str) (v : V) : List.lookup f [(f, v)] = some v := by simp [List.lookup]

theorem pe_exfK {X : Cx} {K : PySem.W.Frag} {e : Expr} {f : Str} {te : TE} {pos : Pos} (hK : X.K = K) (he : PE X e te) (hb : attributeBase e f X.env (eval e X.env) = eval e X.env := by rfl) :
    PE X (.Attribute e f pos) (tExf K f te) := by
  subst hK
  exact pe_exf he hb
section
variable {P : Program} {w : World} {K : PySem.W.Frag} {mg : Str → Option Value} {base : Heap} {C : Nat → Addr}
theorem fld_given (A : AllC K mg C) {H : Hp} {as : List Addr} {v u : V} (x : ExAll H as (eachOf C v u)) {i : Nat} {b : Addr} (hb : as[i]? = some b) (hi : i < 15) : Fld H K b "given" v := by
  obtain ⟨y, hy, e⟩ := exAll_at x hb
  obtain ⟨_, rfl⟩ := each_at hy
  have hf : fl i = ([("given" : Str)] : List Str) := by
    unfold fl
    rw [if_pos hi]
  rw [hf] at e
  exact Fld.of A (by omega) (by rw [hf]; exact List.mem_singleton.mpr rfl) e (look1 _ _)
theorem fld_index (A : AllC K mg C) {H : Hp} {as : List Addr} {v u : V} (x : ExAll H as (eachOf C v u)) {i : Nat} {b : Addr} (hb : as[i]? = some b) (h1 : 15 ≤ i) (hi : i < 19) : Fld H K b "index" v := by
  obtain ⟨y, hy, e⟩ := exAll_at x hb
  obtain ⟨_, rfl⟩ := each_at hy
  have hf : fl i = ([("index" : Str)] : List Str) := by
    unfold fl
    rw [if_neg (by omega), if_pos hi]
  rw [hf] at e
  exact Fld.of A (by omega) (by rw [hf]; exact List.mem_singleton.mpr rfl) e (look1 _ _)
theorem fld_ring (A : AllC K mg C) {H : Hp} {as : List Addr} {v u : V} (x : ExAll H as (eachOf C v u)) {b : Addr} (hb : as[23]? = some b) : Fld H K b "ring" v := by
  obtain ⟨y, hy, e⟩ := exAll_at x hb
  obtain ⟨_, rfl⟩ := each_at hy
  exact Fld.of A (i := 23) (by omega) (by decide) e (look1 _ _)
theorem fld_two (A : AllC K mg C) {H : Hp} {as : List Addr} {v u : V} (x : ExAll H as (eachOf C v u)) {i : Nat} {b : Addr} (hb : as[i]? = some b) (h1 : 19 ≤ i) (hi : i < 23) : Fld H K b "line" v ∧ Fld H K b "place" u := by
  obtain ⟨y, hy, e⟩ := exAll_at x hb
  obtain ⟨_, rfl⟩ := each_at hy
  have hf : fl i = ([("line" : Str), ("place" : Str)] : List Str) := by
    unfold fl
    rw [if_neg (by omega), if_neg (by omega), if_pos hi]
  rw [hf] at e
  exact ⟨Fld.of A (by omega) (by rw [hf]; decide) e (show List.lookup ("line" : Str) [(("place" : Str), u), (("line" : Str), v)] = some v from rfl), Fld.of A (by omega) (by rw [hf]; decide) e (show List.lookup ("place" : Str) [(("place" : Str), u), (("line" : Str), v)] = some u from rfl)⟩

/-- printed within a hundred signs -/
theorem small_ok {d : PyData} (h : Small d) : d.showable = true ∧ d.shown.length ≤ 1000 ∧ d.depth ≤ 9 := ⟨h.1, by have := h.2.1; omega, by have := h.2.2; omega⟩
theorem tupleText_len (ts : List Str) : (tupleText ts).length ≤ piled ts + 2 := PySem.fmt_text ts
theorem pair_ok {d e : PyData} (h : Small d) (k : Small e) : (PyData.tuple [d, e]).showable = true ∧ (PyData.tuple [d, e]).shown.length ≤ 1000 ∧ (PyData.tuple [d, e]).depth ≤ 9 := by
  obtain ⟨h1, h2, h3⟩ := h
  obtain ⟨k1, k2, k3⟩ := k
  refine ⟨?_, ?_, ?_⟩
  · simp [PyData.showable, PyData.showableAll, h1, k1]
  · simp only [PyData.shown, PyData.shownAll]
    have := tupleText_len [d.shown, e.shown]
    rw [piled_cons, piled_cons, piled_nil] at this
    omega
  · simp only [PyData.depth, PyData.depthAll]
    omega

def spKeeps (C : Nat → Addr) : Sp := fun vs H Q _ => ∃ (W : Addr → Prop) (l : Addr) (v u : V) (d e : PyData) (as : List Addr), vs = [.ref l, v, u] ∧ (∀ a, W a → H a ≠ none) ∧ Dq W H v d ∧ Dq W H u e ∧ Small d ∧ Small e ∧
  H l = some (.lst (as.map V.ref)) ∧ ExAll H as (eachOf C v u) ∧ ∀ H', Same H H' → Q (.bl true) H'
theorem ok_keeps {f : Addr} {fd : FuncData} (F : Fun K "_law_keeps" "_law_keeps" s_law_keeps f fd) (A : AllC K mg C) (M : Mb mg) (Dlaw_under : Df P w K mg base 1 "_law_under" ["made"] (spUnder C))
    (Dlaw_is_plain : Df P w K mg base 1 "_law_is_plain" ["made"] (spPlain C)) : FnG P w K mg base 2 f fd ["made", "here", "there"] (spKeeps C) := by
  refine okG F c_law_keeps (fun vs H Q E h => ?_) (fun cdv _ outer s H vs Q E hG hr h => ?_)
  · obtain ⟨W, l, v, u, d, e, as, rfl, _⟩ := h
    rfl
  · obtain ⟨W, l, v, u, d, e, as, rfl, al, dv, du, Sd, Se, hl, hx, q⟩ := h
    have la : as.length = 28 := paired_len hx
    refine ⟨_, (pss_cons (ps_for PassesOwn.never rfl (pi_enum (by rfl) M.enumerate (pa_cons (pv 0) pa_nil)) (pg_tup rfl (pgs_cons (pg_name (i := 3) c_law_keeps.nd rfl (.inr rfl)) (pgs_cons (pg_name (i := 4) c_law_keeps.nd rfl (.inl rfl)) pgs_nil)))
 (pss_one (ps_if (PW.pt (pw_or (pt_cmpR op_ne (pe_callB (call_repr hG hr) (by rfl) M.repr (by decide +kernel) (pa_cons (pe_call Dlaw_under.G (hr.mono (by decide)) rfl Dlaw_under.g Dlaw_under.kp Dlaw_under.b .nil pass0 (pa_cons (pv 4) pa_nil)) pa_nil)) (pe_callB (call_repr hG hr) (by rfl) M.repr (by decide +kernel) (pa_cons (pe_lc (own := [("at", 5)]) rfl c_law_keeps.nd (pi_range1 (by rfl) M.range (pa_cons pe_int pa_nil)) (blkOk_by (own := [("at", 5)]) (N := n_law_keeps) (sc := defScope s_law_keeps) (by decide +kernel)) (fun _ _ _ _ _ => (pg_name (i := 5) c_law_keeps.nd rfl (.inl rfl))) (fun _ _ _ _ _ => pts_nil) (fun _ _ _ _ _ => (pe_or (pe_cmpR op_eq (pv 5) (pv 3) (nomark _)) (pe_one (pe_cmpR op_eq (pv 5) pe_int (nomark _)))))) pa_nil)) (nomark _)) (pw_or1 (pt_not (pt_val (pe_call Dlaw_is_plain.G (hr.mono (by decide)) rfl Dlaw_is_plain.g Dlaw_is_plain.kp Dlaw_is_plain.b .nil pass0 (pa_cons (pv 4) pa_nil)))))))
 (pss_one (ps_ret pe_bl))
 pss_nil)))
 (pss_cons (ps_set (i := 6) c_law_keeps.nd rfl (.inl rfl) (pe_op op_cat (pe_lc (own := [("each", 4)]) rfl c_law_keeps.nd (pi_list (pe_slice sl_list (pv 0) po_none (po_some pe_int))) (blkOk_by (own := [("each", 4)]) (N := n_law_keeps) (sc := defScope s_law_keeps) (by decide +kernel)) (fun _ _ _ _ _ => (pg_name (i := 4) c_law_keeps.nd rfl (.inl rfl))) (fun _ _ _ _ _ => pts_nil) (fun _ _ _ _ _ => (by exact (pe_exfK (K := K) rfl (pv 4))))) (pe_lc (own := [("each", 4)]) rfl c_law_keeps.nd (pi_list (pe_slice sl_list (pv 0) (po_some pe_int) (po_some pe_int))) (blkOk_by (own := [("each", 4)]) (N := n_law_keeps) (sc := defScope s_law_keeps) (by decide +kernel)) (fun _ _ _ _ _ => (pg_name (i := 4) c_law_keeps.nd rfl (.inl rfl))) (fun _ _ _ _ _ => pts_nil) (fun _ _ _ _ _ => (by exact (pe_exfK (K := K) rfl (pv 4)))))))
 (pss_cons (ps_if (pt_cmpR op_ne (pe_callB (call_repr hG hr) (by rfl) M.repr (by decide +kernel) (pa_cons (pe_op op_cat (pv 6) (pe_lst (pa_cons (by exact (pe_exfK (K := K) rfl (pe_ix ix_list (pv 0) pe_int (fun _ _ => rfl)))) pa_nil))) pa_nil)) (pe_callB (call_repr hG hr) (by rfl) M.repr (by decide +kernel) (pa_cons (pe_op op_rep (pe_lst (pa_cons (pv 1) pa_nil)) pe_int) pa_nil)) (nomark _))
 (pss_one (ps_ret pe_bl))
 pss_nil)
 (pss_one (ps_ret (pe_cmpR op_eq (pe_callB (call_repr hG hr) (by rfl) M.repr (by decide +kernel) (pa_cons (pe_lc (own := [("each", 4)]) rfl c_law_keeps.nd (pi_list (pe_slice sl_list (pv 0) (po_some pe_int) (po_some pe_int))) (blkOk_by (own := [("each", 4)]) (N := n_law_keeps) (sc := defScope s_law_keeps) (by decide +kernel)) (fun _ _ _ _ _ => (pg_name (i := 4) c_law_keeps.nd rfl (.inl rfl))) (fun _ _ _ _ _ => pts_nil) (fun _ _ _ _ _ => (pe_tup (pa_cons (by exact (pe_exfK (K := K) rfl (pv 4))) (pa_cons (by exact (pe_exfK (K := K) rfl (pv 4))) pa_nil))))) pa_nil)) (pe_callB (call_repr hG hr) (by rfl) M.repr (by decide +kernel) (pa_cons (pe_op op_rep (pe_lst (pa_cons (pe_tup (pa_cons (pv 1) (pa_cons (pv 2) pa_nil))) pa_nil)) pe_int) pa_nil)) (nomark _))))))), ?_⟩
    -- for spot, each in enumerate(made)
    refine ⟨_, rfl, l, _, rfl, .inl (.inl hl), for_it (walk_enum (xs := as.map V.ref)) (fun i σ H' => ∃ y3 y4 y5, σ = [some (.ref l), some v, some u, y3, y4, y5, none] ∧ Same H H')
      ⟨none, none, none, rfl, .refl H⟩ (fun i σ H' _ ⟨_, _, _, _, s⟩ => .inl (.inl (s _ _ hl))) ?_ ?_⟩
    · rintro i y σ H1 H2 hi ⟨y3, y4, y5, rfl, s1⟩ ⟨T, x1, x2, rfl, nT, rfl, e1, e2⟩
      cases e1
      have hil : i < as.length := by
        rw [List.length_map] at hi
        exact hi
      have ha : as[i]? = some as[i] := List.getElem?_eq_getElem hil
      obtain rfl : x2 = .ref as[i] := by
        have z : (as.map V.ref)[i]? = some x2 := e2
        rw [List.getElem?_map, ha] at z
        exact (Option.some.inj z).symm
      obtain ⟨x, hxe, hX⟩ := exAll_at hx ha
      obtain ⟨hi28, rfl⟩ := each_at hxe
      generalize as[i] = b at hX ha
      have s2 : Same H (upd H1 T (.tup [.int (i : Nat), .ref b])) := s1.trans (same_new nT)
      refine ⟨T, _, rfl, .inl (.inl upd_same), rfl, _, _, rfl, _, _, rfl, rfl, ?_⟩
      generalize upd H1 T (.tup [.int (i : Nat), .ref b]) = H2 at s2
      have X2 := hX.same s2
      -- repr(_law_under(each))
      refine ⟨_, rfl, b, i, _, rfl, hi28, X2, fun l1 H3 s3 _ e3 => ?_⟩
      have R1 := repr_parts (bools_ok (unders i)) (by decide) (by rw [List.length_map]; exact Nat.le_of_ble_eq_true rfl)
      refine ⟨fun _ => False, _, _, rfl, .lst (fun z => z) e3 (.bls _), R1.1, R1.2.1, R1.2.2, ?_⟩
      -- repr([at == spot or at == 27 for at in range(28)])
      refine ⟨28, rfl, by decide, by decide, fun D nD => ?_⟩
      refine lc_range (lo := 0) (n := 28) (fun j H' => Same H3 H' ∧ H' D = some (.lst ((List.range j).map fun j => .bl (decide (j = i) || decide (j = 27))))) ⟨same_new nD, upd_same⟩ ?_ ?_
      · rintro j H4 hj ⟨s4, e4⟩
        have fin : ∀ b, b = (decide (j = i) || decide (j = 27)) → ∃ acc, H4 D = some (.lst acc) ∧ acc.length < sizeLine ∧
            (Same H3 (upd H4 D (.lst (acc ++ [.bl b]))) ∧ (upd H4 D (.lst (acc ++ [.bl b]))) D = some (.lst ((List.range (j + 1)).map fun j => .bl (decide (j = i) || decide (j = 27))))) := by
          rintro b rfl
          refine ⟨_, e4, sz63' (by rw [List.length_map, List.length_range]; omega), same_mut s4 nD, ?_⟩
          rw [upd_same, List.range_succ, List.map_append]
          rfl
        refine ⟨rfl, _, rfl, _, rfl, rfl, _, rfl, ite2 (fun c => ?_) (fun c => ?_)⟩
        · have z : j = i := by
            have := V.int.inj (of_decide_eq_true c)
            omega
          exact fin true (by rw [decide_eq_true z]; rfl)
        · have z : j ≠ i := fun q => c (decide_eq_true (by rw [q, Int.zero_add]))
          refine ⟨_, rfl, rfl, ?_⟩
          refine fin _ ?_
          rw [decide_eq_false z, Bool.false_or]
          by_cases z2 : j = 27
          · rw [decide_eq_true z2, decide_eq_true (by rw [z2]; rfl)]
          · rw [decide_eq_false z2, decide_eq_false (fun q => z2 (by have := V.int.inj q; omega))]
      · rintro H4 ⟨s4, e4⟩
        have e5 : H4 D = some (.lst ((unders i).map V.bl)) := by
          rw [e4]
          unfold unders
          rw [List.map_map]
          rfl
        refine ⟨fun _ => False, _, _, rfl, .lst (fun z => z) e5 (.bls _), R1.1, R1.2.1, R1.2.2, ?_⟩
        refine ⟨rfl, _, rfl, ?_⟩
        rw [decide_eq_true rfl]
        refine iteF ?_
        refine ⟨_, rfl, b, i, _, rfl, hi28, X2.same (s3.trans s4), _, rfl, iteF ?_⟩
        exact ⟨_, _, _, rfl, s2.trans (s3.trans s4)⟩
    · rintro σ H1 ⟨y3, y4, y5, rfl, s1⟩
      -- [each.given for each in made[:15]]
      have alH : ∀ {H' : Hp}, Same H H' → ∀ {p : Addr}, H' p = none → ¬ W p := fun s p n w => al p w (s.free n)
      have c1 : cutV (as.map V.ref) none (some 15) = (as.take 15).map V.ref := by
        rw [show (some (15 : Int)) = some ((15 : Nat) : Int) from rfl, cut_to (by rw [List.length_map, la]; decide), List.map_take]
      have c2 : cutV (as.map V.ref) (some 15) (some 19) = ((as.drop 15).take 4).map V.ref := by
        rw [show (some (15 : Int)) = some ((15 : Nat) : Int) from rfl, show (some (19 : Int)) = some ((19 : Nat) : Int) from rfl, cut_mid (by rw [List.length_map, la]; decide) (by decide), List.map_take, List.map_drop]
      have c3 : cutV (as.map V.ref) (some 19) (some 23) = ((as.drop 19).take 4).map V.ref := by
        rw [show (some (19 : Int)) = some ((19 : Nat) : Int) from rfl, show (some (23 : Int)) = some ((23 : Nat) : Int) from rfl, cut_mid (by rw [List.length_map, la]; decide) (by decide), List.map_take, List.map_drop]
      have inTo : ∀ {b : Addr} {n : Nat}, b ∈ as.take n → ∃ i, i < n ∧ as[i]? = some b := fun {b n} hb => by
        obtain ⟨i, e⟩ := List.mem_iff_getElem?.mp hb
        rw [List.getElem?_take] at e
        split at e
        · exact ⟨i, by assumption, e⟩
        · cases e
      have inMid : ∀ {b : Addr} {m n : Nat}, b ∈ (as.drop m).take n → ∃ i, m ≤ i ∧ i < m + n ∧ as[i]? = some b := fun {b m n} hb => by
        obtain ⟨i, e⟩ := List.mem_iff_getElem?.mp hb
        rw [List.getElem?_take] at e
        split at e
        · rw [List.getElem?_drop] at e
          exact ⟨m + i, by omega, by omega, e⟩
        · cases e
      refine ⟨_, rfl, 15, rfl, l, _, rfl, .inl (.inl (s1 _ _ hl)), fun c nc => ?_⟩
      rw [c1]
      have s2 := s1.trans (same_new (o := .lst ((as.take 15).map V.ref)) nc)
      refine ⟨c, rfl, ⟨_, .inl (.inl upd_same)⟩, fun D nD => ?_⟩
      have upc : (upd H1 c (.lst ((as.take 15).map V.ref))) c = some (.lst ((as.take 15).map V.ref)) := upd_same
      generalize upd H1 c (.lst ((as.take 15).map V.ref)) = H2 at s2 nD upc
      refine const_lc (W := W) (d := d) (te := tExf K "given" (tVar 4)) nD upc (by rw [List.length_take]; omega) (fun _ => rfl) ?_ ?_
      · intro b hb H' Q' s' nz k
        obtain ⟨i, hi, hbi⟩ := inTo hb
        obtain ⟨C1, d1, fs, T, no, eX, ed, lk⟩ := (fld_given A hx hbi hi).same (s2.trans s')
        exact ⟨_, rfl, b, C1, d1, fs, v, rfl, T, no, eX, ed, lk, k v H' (.refl H') ((dq_live nD (dv.keep (Kp.same s2))).keep (Kp.same s'))⟩
      rintro H3 acc3 s3' e3 q3
      have s3 := s2.trans s3'
      have nD0 : H D = none := s2.free nD
      rw [List.length_take, la, show min 15 28 = 15 from rfl] at q3
      have q3 : DqAll W H3 acc3 (List.replicate 15 d) := q3.weak fun a w => .inl w
      -- [each.index for each in made[15:19]]
      refine ⟨_, rfl, 15, rfl, 19, rfl, l, _, rfl, .inl (.inl (s3 _ _ hl)), fun c' nc' => ?_⟩
      rw [c2]
      have s4 := s3.trans (same_new (o := .lst (((as.drop 15).take 4).map V.ref)) nc')
      have k4 : Same H3 (upd H3 c' (.lst (((as.drop 15).take 4).map V.ref))) := same_new nc'
      refine ⟨c', rfl, ⟨_, .inl (.inl upd_same)⟩, fun D' nD' => ?_⟩
      have upc' : (upd H3 c' (.lst (((as.drop 15).take 4).map V.ref))) c' = some (.lst (((as.drop 15).take 4).map V.ref)) := upd_same
      generalize upd H3 c' (.lst (((as.drop 15).take 4).map V.ref)) = H4 at s4 nD' upc' k4
      refine const_lc (W := W) (d := d) (te := tExf K "index" (tVar 4)) nD' upc' (by rw [List.length_take]; omega) (fun _ => rfl) ?_ ?_
      · intro b hb H' Q' s' nz k
        obtain ⟨i, hi, hi2, hbi⟩ := inMid hb
        obtain ⟨C1, d1, fs, T, no, eX, ed, lk⟩ := (fld_index A hx hbi hi hi2).same (s4.trans s')
        exact ⟨_, rfl, b, C1, d1, fs, v, rfl, T, no, eX, ed, lk, k v H' (.refl H') ((dq_live nD' (dv.keep (Kp.same s4))).keep (Kp.same s'))⟩
      rintro H5 acc5 s5' e5 q5
      have s5 := s4.trans s5'
      have k5 := k4.trans s5'
      rw [List.length_take, List.length_drop, la, show min 4 (28 - 15) = 4 from rfl] at q5
      have q5 : DqAll W H5 acc5 (List.replicate 4 d) := q5.weak fun a w => .inl w
      have l3 : acc3.length = 15 := q3.length
      have l5 : acc5.length = 4 := q5.length
      refine ⟨D, D', _, _, rfl, rfl, k5 _ _ e3, e5, sz63 (by omega), fun p np => ?_⟩
      have s6 := s5.trans (same_new (o := .lst (acc3 ++ acc5)) np)
      have k6 : Same H5 (upd H5 p (.lst (acc3 ++ acc5))) := same_new np
      have ep : (upd H5 p (.lst (acc3 ++ acc5))) p = some (.lst (acc3 ++ acc5)) := upd_same
      generalize upd H5 p (.lst (acc3 ++ acc5)) = H6 at s6 k6 ep
      have q6 : DqAll W H6 (acc3 ++ acc5) (List.replicate 15 d ++ List.replicate 4 d) := (q3.keep (Kp.same (k5.trans k6))).app (q5.keep (Kp.same k6))
      -- repr(told + [made[23].ring])
      have hb23 : as[23]? = some as[23] := List.getElem?_eq_getElem (by omega)
      obtain ⟨C1, d1, fs, T, no, eX, ed, lk⟩ := (fld_ring A hx hb23).same s6
      have at23 : atI (as.map V.ref) 23 = some (.ref as[23]) := atI_nat (j := 23) (by rw [List.getElem?_map, hb23]; rfl)
      refine ⟨_, rfl, _, rfl, l, _, 23, _, rfl, rfl, .inl (.inl (s6 _ _ hl)), at23, as[23], C1, d1, fs, v, rfl, T, no, eX, ed, lk, sz63 (by show 1 ≤ 1000; decide), fun r nr => ?_⟩
      have s7 := s6.trans (same_new (o := .lst [v]) nr)
      have k7 : Same H6 (upd H6 r (.lst [v])) := same_new nr
      refine ⟨p, r, _, _, rfl, rfl, k7 _ _ ep, upd_same, sz63 (by rw [List.length_append]; show _ + 1 ≤ 1000; omega), fun t nt => ?_⟩
      have k8 := k7.trans (same_new (o := .lst (acc3 ++ acc5 ++ [v])) nt)
      have s8 := s6.trans k8
      have q8 : DqAll W (upd (upd H6 r (.lst [v])) t (.lst (acc3 ++ acc5 ++ [v]))) (acc3 ++ acc5 ++ [v]) (List.replicate 20 d) := by
        have z := (q6.keep (Kp.same k8)).app (.cons (dv.keep (Kp.same s8)) .nil)
        have e20 : List.replicate 15 d ++ List.replicate 4 d ++ [d] = List.replicate 20 d := rfl
        rw [e20] at z
        exact z
      have R := repr_parts (rep_ok (small_ok Sd) 20) (by decide) (by rw [List.length_replicate]; decide)
      refine ⟨W, _, _, rfl, .lst (alH s7 nt) upd_same q8, R.1, R.2.1, R.2.2, ?_⟩
      generalize upd (upd H6 r (.lst [v])) t (.lst (acc3 ++ acc5 ++ [v])) = H8 at s8
      -- repr([here] * 20)
      refine ⟨_, rfl, sz63 (by show 1 ≤ 1000; decide), fun r' nr' => ?_⟩
      have s9 := s8.trans (same_new (o := .lst [v]) nr')
      refine ⟨r', 20, _, rfl, rfl, upd_same, by decide, by decide, by show 1 * 20 ≤ sizeLine; decide, fun t' nt' => ?_⟩
      have s10 := s9.trans (same_new (o := .lst (List.replicate (20 : Int).toNat [v]).flatten) nt')
      have q10 : DqAll W (upd (upd H8 r' (.lst [v])) t' (.lst (List.replicate (20 : Int).toNat [v]).flatten)) (List.replicate (20 : Int).toNat [v]).flatten (List.replicate 20 d) := DqAll.rep (dv.keep (Kp.same s10)) 20
      refine ⟨W, _, _, rfl, .lst (alH s9 nt') upd_same q10, R.1, R.2.1, R.2.2, ?_⟩
      generalize upd (upd H8 r' (.lst [v])) t' (.lst (List.replicate (20 : Int).toNat [v]).flatten) = H10 at s10
      refine ⟨rfl, _, rfl, ?_⟩
      rw [decide_eq_true rfl]
      refine iteF ?_
      -- [(each.line, each.place) for each in made[19:23]]
      refine ⟨_, rfl, 19, rfl, 23, rfl, l, _, rfl, .inl (.inl (s10 _ _ hl)), fun c nc => ?_⟩
      rw [c3]
      have s11 := s10.trans (same_new (o := .lst (((as.drop 19).take 4).map V.ref)) nc)
      refine ⟨c, rfl, ⟨_, .inl (.inl upd_same)⟩, fun D nD => ?_⟩
      have upc : (upd H10 c (.lst (((as.drop 19).take 4).map V.ref))) c = some (.lst (((as.drop 19).take 4).map V.ref)) := upd_same
      generalize upd H10 c (.lst (((as.drop 19).take 4).map V.ref)) = H11 at s11 nD upc
      refine const_lc (W := W) (d := .tuple [d, e]) (te := tTup (tCons (tExf K "line" (tVar 4)) (tCons (tExf K "place" (tVar 4)) tNil))) nD upc (by rw [List.length_take]; omega) (fun _ => rfl) ?_ ?_
      · intro b hb H' Q' s' nz k
        obtain ⟨i, hi, hi2, hbi⟩ := inMid hb
        obtain ⟨f1, f2⟩ := fld_two A hx hbi hi hi2
        obtain ⟨C1, d1, fs1, T1, no1, e1, ed1, lk1⟩ := f1.same (s11.trans s')
        obtain ⟨C2, d2, fs2, T2, no2, e2, ed2, lk2⟩ := f2.same (s11.trans s')
        refine ⟨_, rfl, b, C1, d1, fs1, v, rfl, T1, no1, e1, ed1, lk1, _, rfl, b, C2, d2, fs2, u, rfl, T2, no2, e2, ed2, lk2, sz63 (by show 2 ≤ 1000; decide), fun p np => ?_⟩
        have v1 := ((dq_live nD (dv.keep (Kp.same s11))).keep (Kp.same s')).keep (Kp.same (same_new (o := .tup [v, u]) np))
        have u1 := ((dq_live nD (du.keep (Kp.same s11))).keep (Kp.same s')).keep (Kp.same (same_new (o := .tup [v, u]) np))
        exact k _ _ (same_new np) (.tup (fun w => w.elim (alH (s11.trans s') np) fun z => nz (by rw [← z]; exact np)) upd_same (.cons v1 (.cons u1 .nil)))
      rintro H12 acc s12' e12 q12
      have s12 := s11.trans s12'
      rw [List.length_take, List.length_drop, la, show min 4 (28 - 19) = 4 from rfl] at q12
      have q12 : DqAll W H12 acc (List.replicate 4 (.tuple [d, e])) := q12.weak fun a w => .inl w
      have R2 := repr_parts (rep_ok (pair_ok Sd Se) 4) (by decide) (by rw [List.length_replicate]; decide)
      refine ⟨W, _, _, rfl, .lst (alH s11 nD) e12 q12, R2.1, R2.2.1, R2.2.2, ?_⟩
      -- [(here, there)] * 4
      refine ⟨_, rfl, _, rfl, sz63 (by show 2 ≤ 1000; decide), fun p np => ?_⟩
      have s13 := s12.trans (same_new (o := .tup [v, u]) np)
      have pair : Dq W (upd H12 p (.tup [v, u])) (.ref p) (.tuple [d, e]) :=
        .tup (alH s12 np) upd_same (.cons (dv.keep (Kp.same s13)) (.cons (du.keep (Kp.same s13)) .nil))
      refine ⟨sz63 (by show 1 ≤ 1000; decide), fun r nr => ?_⟩
      have k14 : Same (upd H12 p (.tup [v, u])) (upd (upd H12 p (.tup [v, u])) r (.lst [.ref p])) := same_new nr
      refine ⟨r, 4, _, rfl, rfl, upd_same, by decide, by decide, by show 1 * 4 ≤ sizeLine; decide, fun t nt => ?_⟩
      have k15 := k14.trans (same_new (o := .lst (List.replicate (4 : Int).toNat [V.ref p]).flatten) nt)
      have q15 : DqAll W (upd (upd (upd H12 p (.tup [v, u])) r (.lst [.ref p])) t (.lst (List.replicate (4 : Int).toNat [V.ref p]).flatten)) (List.replicate (4 : Int).toNat [V.ref p]).flatten (List.replicate 4 (.tuple [d, e])) :=
        DqAll.rep (pair.keep (Kp.same k15)) 4
      refine ⟨W, _, _, rfl, .lst (alH (s13.trans k14) nt) upd_same q15, R2.1, R2.2.1, R2.2.2, ?_⟩
      refine ⟨rfl, ?_⟩
      rw [decide_eq_true rfl]
      exact q _ (s13.trans k15)

/-! ### a turn of the law -/
def spRight : Sp := fun vs H Q _ => ∃ w : Addr, vs = [.ref w] ∧ IsWell w H ∧ ∀ H' : Hp, IsWell w H' → Q (.bl true) H'
/-- a def that is run where no printing is under way -/
structure Dg (P : Program) (w : World) (K : PySem.W.Frag) (mg : Str → Option Value) (base : Heap) (k : Nat) (x : Str) (ps : List Str) (sp : Sp) where
  f : Addr
  fd : FuncData
  g : mg x = some (.ref f)
  kp : PySem.W.keepIn K (.ref f) = true
  b : Binds K fd ps []
  G : FnG P w K mg base k f fd ps sp
theorem ok_right {f : Addr} {fd : FuncData} (F : Fun K "_law_right" "_law_right" s_law_right f fd) (Dlaw_thing : Df P w K mg base 3 "_law_thing" ["well"] spThing)
    (Dlaw_named : Df P w K mg base 3 "_law_named" ["here", "there"] (spMade C)) (Dlaw_placed : Df P w K mg base 3 "_law_placed" ["here", "there"] (spMade C))
    (Dlaw_keeps : Dg P w K mg base 2 "_law_keeps" ["made", "here", "there"] (spKeeps C)) : FnG P w K mg base 4 f fd ["well"] spRight := by
  refine okG F c_law_right (fun vs H Q E h => ?_) (fun cdv _ outer s H vs Q E hG hr h => ?_)
  · obtain ⟨w, rfl, _⟩ := h
    rfl
  · obtain ⟨w, rfl, hW, q⟩ := h
    refine ⟨_, (pss_cons (ps_par (i := 1) (j := 2) (by rfl) c_law_right.nd rfl rfl (by decide) rfl rfl (pa_cons (pe_call Dlaw_thing.G (hr.mono (by decide)) rfl Dlaw_thing.g Dlaw_thing.kp Dlaw_thing.b .nil pass0 (pa_cons (pv 0) pa_nil)) (pa_cons (pe_call Dlaw_thing.G (hr.mono (by decide)) rfl Dlaw_thing.g Dlaw_thing.kp Dlaw_thing.b .nil pass0 (pa_cons (pv 0) pa_nil)) pa_nil)) (by rfl))
 (pss_cons (ps_par (i := 3) (j := 4) (by rfl) c_law_right.nd rfl rfl (by decide) rfl rfl (pa_cons (pe_call Dlaw_named.G (hr.mono (by decide)) rfl Dlaw_named.g Dlaw_named.kp Dlaw_named.b .nil pass0 (pa_cons (pv 1) (pa_cons (pv 2) pa_nil))) (pa_cons (pe_call Dlaw_placed.G (hr.mono (by decide)) rfl Dlaw_placed.g Dlaw_placed.kp Dlaw_placed.b .nil pass0 (pa_cons (pv 2) (pa_cons (pv 1) pa_nil))) pa_nil)) (by rfl))
 (pss_one (ps_ret (pe_and (pe_callG Dlaw_keeps.G hG (hr.mono (by decide)) rfl Dlaw_keeps.g Dlaw_keeps.kp Dlaw_keeps.b (pa_cons (pv 3) (pa_cons (pv 1) (pa_cons (pv 2) pa_nil)))) (pe_and (pe_callG Dlaw_keeps.G hG (hr.mono (by decide)) rfl Dlaw_keeps.g Dlaw_keeps.kp Dlaw_keeps.b (pa_cons (pv 4) (pa_cons (pv 2) (pa_cons (pv 1) pa_nil)))) (pe_one (pe_callG Dlaw_keeps.G hG (hr.mono (by decide)) rfl Dlaw_keeps.g Dlaw_keeps.kp Dlaw_keeps.b (pa_cons (pv 3) (pa_cons (pv 1) (pa_cons (pv 2) pa_nil))))))))))), ?_⟩
    -- here, there
    refine ⟨_, rfl, w, rfl, hW, fun H1 v d k1 W1 dv Sd => ?_⟩
    refine ⟨_, rfl, w, rfl, W1, fun H2 u e k2 W2 du Se => ?_⟩
    have dv2 := dv.keep k2
    refine ⟨_, _, rfl, ?_⟩
    -- named, placed
    refine ⟨_, rfl, _, rfl, v, u, rfl, fun l3 H3 as3 s3 e3 x3 => ?_⟩
    refine ⟨_, rfl, _, rfl, u, v, rfl, fun l4 H4 as4 s4 e4 x4 => ?_⟩
    refine ⟨_, _, rfl, ?_⟩
    have W4 := well_same s4 (well_same s3 W2)
    have al : ∀ {H'}, IsWell w H' → ∀ a, At w a → H' a ≠ none := fun h a z => well_old h a z
    have v4 := (dv2.keep (Kp.same s3)).keep (Kp.same s4)
    have u4 := (du.keep (Kp.same s3)).keep (Kp.same s4)
    refine ⟨_, rfl, _, rfl, _, rfl, At w, l3, v, u, d, e, as3, rfl, al W4, v4, u4, Sd, Se, s4 _ _ e3, exAll_same s4 x3, fun H5 s5 => ⟨_, rfl, iteT ?_⟩⟩
    have W5 := well_same s5 W4
    refine ⟨_, rfl, _, rfl, _, rfl, At w, l4, u, v, e, d, as4, rfl, al W5, u4.keep (Kp.same s5), v4.keep (Kp.same s5), Se, Sd, s5 _ _ e4, exAll_same s5 x4, fun H6 s6 => ⟨_, rfl, iteT ?_⟩⟩
    have W6 := well_same s6 W5
    have s56 := s5.trans s6
    exact ⟨_, rfl, _, rfl, _, rfl, At w, l3, v, u, d, e, as3, rfl, al W6, v4.keep (Kp.same s56), u4.keep (Kp.same s56), Sd, Se, s56 _ _ (s4 _ _ e3), exAll_same (s4.trans s56) x3, fun H7 s7 => q H7 (well_same s7 W6)⟩

/-! ### the law -/
def spLaw (K : PySem.W.Frag) : Sp := fun vs H Q _ => ∃ (a : Addr) (ns : List Int), vs = [.ref a] ∧ SqL K H a (ns.map V.int) ∧ ns.length ≤ 63 ∧ ∀ H', Q (.bl true) H'
theorem ok_law {f : Addr} {fd : FuncData} (F : Fun K "law" "law" slaw f fd) (M : Mb mg) (Dlaw_well : Df P w K mg base 1 "_law_well" ["script", "salt"] (spWell K)) (Dlaw_right : Dg P w K mg base 4 "_law_right" ["well"] spRight) :
    FnG P w K mg base 5 f fd ["script"] (spLaw K) := by
  refine okG F claw (fun vs H Q E h => ?_) (fun cdv _ outer s H vs Q E hG hr h => ?_)
  · obtain ⟨a, ns, rfl, _⟩ := h
    rfl
  · obtain ⟨a, ns, rfl, hS, hlen, q⟩ := h
    refine ⟨_, (pss_cons (ps_set (i := 1) claw.nd rfl (.inl rfl) (pe_call Dlaw_well.G (hr.mono (by decide)) rfl Dlaw_well.g Dlaw_well.kp Dlaw_well.b .nil pass0 (pa_cons (pv 0) (pa_cons pe_int pa_nil))))
 (pss_cons (ps_for PassesOwn.never rfl (pi_range1 (by rfl) M.range (pa_cons pe_int pa_nil)) (pg_name (i := 2) claw.nd rfl (.inl rfl))
 (pss_one (ps_if (pt_not (pt_val (pe_callG Dlaw_right.G hG (hr.mono (by decide)) rfl Dlaw_right.g Dlaw_right.kp Dlaw_right.b (pa_cons (pv 1) pa_nil))))
 (pss_one (ps_ret pe_bl))
 pss_nil)))
 (pss_one (ps_ret pe_bl)))), ?_⟩
    refine ⟨_, rfl, a, ns, 1, rfl, hS, hlen, fun H1 w n1 s1 W1 => ?_⟩
    refine ⟨4, rfl, by decide, by decide, for_range (lo := 0) (n := 4) (fun i σ H' => ∃ y, σ = [some (.ref a), some (.ref w), y] ∧ IsWell w H') ⟨none, rfl, W1⟩ ?_ ?_⟩
    · rintro i σ H2 hi ⟨y, rfl, W2⟩
      exact ⟨_, rfl, w, rfl, W2, fun H3 W3 => ⟨_, rfl, iteF ⟨_, rfl, W3⟩⟩⟩
    · rintro σ H2 ⟨y, rfl, W2⟩
      exact q H2
end
end Kx
/-! What the top has written; the end. -/
namespace Kx
open PySem PySem.Spec PyProof.Rows L2 Bw

/-- a class as the top has written it -/
structure ClsR (K : PySem.W.Frag) (i : Nat) (C W : Addr) : Prop where
  a : PySem.W.nsIn K mainGlobals (cN i) = some (some (.ref C))
  lk : ∃ q N bs sn sub ab col dd k0 k1 k2 k3 k5, K.lookup C = some (excClassObj (cN i) q C N bs (bmOf i W) true sn sub ab col dd k0 k1 k2 k3 k5 "ValueError.__new__")
  ga : PySem.W.findIn K (.ref C) "__getattribute__" = some (some (.builtin "BaseException.__getattribute__"))
  gt : PySem.W.findIn K (.ref C) "__getattr__" = some none
  ca : PySem.W.findIn K (.ref C) "__class__" = some (some (.builtin "object.__class__"))
  sa : PySem.W.findIn K (.ref C) "__setattr__" = some (some (.builtin "object.__setattr__"))
  kC : PySem.W.keepIn K (.ref C) = true
/-- its __init__ -/
structure InitR (K : PySem.W.Frag) (C : Addr) (qual : Str) (st : Stmt) (fs : List Str) : Prop where
  at_ : ∃ (fI : Addr) (oc : Value) (od : Option Addr) (kV doc pm : Value) (an : Option Addr) (cdv ct : Value) (osl : Array (Option Value)),
    PySem.W.findIn K (.ref C) "__init__" = some (some (.ref fI)) ∧ PySem.W.typeIn K (.ref fI) = some (.type "function") ∧
    K.lookup fI = some ⟨oc, od, .func (PySem.W.fnOf "__init__" qual (defArgs st) (defBody st) (defScope st) .none kV doc pm an cdv ct), osl⟩ ∧ PySem.W.codeIn K cdv qual = true ∧ PySem.W.keepIn K (.ref fI) = true
  no : ∀ f ∈ fs, PySem.W.findIn K (.ref C) f = some none
/-- a def -/
def DefR (K : PySem.W.Frag) (x : Str) (st : Stmt) : Prop := ∃ (f : Addr) (oc : Value) (od : Option Addr) (kV doc pm : Value) (an : Option Addr) (cdv ct : Value) (osl : Array (Option Value)),
  PySem.W.nsIn K mainGlobals x = some (some (.ref f)) ∧ K.lookup f = some ⟨oc, od, .func (PySem.W.fnOf x x (defArgs st) (defBody st) (defScope st) .none kV doc pm an cdv ct), osl⟩ ∧ PySem.W.codeIn K cdv x = true ∧
  PySem.W.keepIn K (.ref f) = true
section
variable {P : Program} {w : World} {K : PySem.W.Frag} {mg : Str → Option Value} {base h : Heap}
theorem cls_of {i : Nat} {C W : Addr} (X : K.In h) (G : h.Ns mainGlobals mg) (r : ClsR K i C W) : ClsG K mg i C W := ⟨PySem.W.mg_of X G r.a, r.lk, r.ga, r.gt, r.ca, r.sa, r.kC⟩
theorem init_of {C : Addr} {qual : Str} {st : Stmt} {fs : List Str} (r : InitR K C qual st fs) :
    ∃ fI fd, Fun K "__init__" qual st fI fd ∧ PySem.W.findIn K (.ref C) "__init__" = some (some (.ref fI)) ∧ PySem.W.typeIn K (.ref fI) = some (.type "function") := by
  obtain ⟨fI, oc, od, kV, doc, pm, an, cdv, ct, osl, iC, tI, l, c, k⟩ := r.at_
  exact ⟨fI, _, fun_mk (st := st) l c k, iC, tI⟩
theorem def_of {x : Str} {st : Stmt} (X : K.In h) (G : h.Ns mainGlobals mg) (r : DefR K x st) : ∃ f fd, Fun K x x st f fd ∧ mg x = some (.ref f) := by
  obtain ⟨f, oc, od, kV, doc, pm, an, cdv, ct, osl, a, l, c, k⟩ := r
  exact ⟨f, _, fun_mk (st := st) l c k, PySem.W.mg_of X G a⟩
theorem kw_mk {x qual : Str} {st : Stmt} {f : Addr} {fd : FuncData} {ps ks : List Str} {g : {α : Type} → List α → List α} (F : Fun K x qual st f fd)
    (h : ∀ (kV doc pm : Value) (an : Option Addr) (cdv ct a : Value) (ws : List Value), ws.length = ks.length →
      bindArgs (PySem.W.fnOf x qual (defArgs st) (defBody st) (defScope st) .none kV doc pm an cdv ct) ⟨[a], ks.zip ws⟩ = pure (ps.zip (a :: g ws))) : SelfKw K fd ps ks g := by
  obtain ⟨oc, od, kV, doc, pm, an, cdv, ct, osl, rfl, _, _⟩ := F.ex
  exact fun s a ws _ hl => .of_eq (h kV doc pm an cdv ct a ws hl)
theorem law_binds {f : Addr} {fd : FuncData} (F : Fun K "law" "law" slaw f fd) (s : Shared) (u : Value) : BindsTo s fd ⟨[u], []⟩ [("script", u)] := by
  obtain ⟨oc, od, kV, doc, pm, an, cdv, ct, osl, rfl, _, _⟩ := F.ex
  exact .of_eq rfl
end

abbrev i0 : Stmt := inClass (topS 2) 0
abbrev i1 : Stmt := inClass (topS 3) 0
abbrev i2 : Stmt := inClass (topS 4) 0
abbrev i3 : Stmt := inClass (topS 5) 0
abbrev i4 : Stmt := inClass (topS 6) 0
abbrev i5 : Stmt := inClass (topS 7) 0
abbrev i6 : Stmt := inClass (topS 8) 0
abbrev i7 : Stmt := inClass (topS 9) 0
abbrev i8 : Stmt := inClass (topS 10) 0
abbrev i9 : Stmt := inClass (topS 11) 0
abbrev i10 : Stmt := inClass (topS 12) 0
abbrev i11 : Stmt := inClass (topS 13) 0
abbrev i12 : Stmt := inClass (topS 14) 0
abbrev i13 : Stmt := inClass (topS 15) 0
abbrev i14 : Stmt := inClass (topS 16) 0
abbrev i15 : Stmt := inClass (topS 17) 0
abbrev i16 : Stmt := inClass (topS 18) 0
abbrev i17 : Stmt := inClass (topS 19) 0
abbrev i18 : Stmt := inClass (topS 20) 0
abbrev i19 : Stmt := inClass (topS 21) 0
abbrev i20 : Stmt := inClass (topS 22) 0
abbrev i21 : Stmt := inClass (topS 23) 0
abbrev i22 : Stmt := inClass (topS 24) 0
abbrev i23 : Stmt := inClass (topS 25) 0
section
variable {P : Program} {w : World} {K : PySem.W.Frag} {mg : Str → Option Value} {base h : Heap}
theorem xi0 {C : Addr} (r : InitR K C "InvalidWalk.__init__" i0 ["given"]) : Nonempty (Xi P w K mg base C (fl 0)) := by
  obtain ⟨fI, fd, F, iC, tI⟩ := init_of r
  exact ⟨⟨fI, fd, iC, tI, ok_init1 F ⟨rfl, rfl, rfl, by decide +kernel, rfl, by decide +kernel, by decide +kernel⟩ rfl rfl rfl rfl rfl,
    F.binds (ps := ["self", "given"]) fun _ _ _ _ _ _ us hl => match us, hl with | [_, _], _ => rfl,
    kw_mk F fun _ _ _ _ _ _ a ws hl => match ws, hl with | [_], _ => rfl, kw_mk F fun _ _ _ _ _ _ a ws hl => match ws, hl with | [_], _ => rfl⟩⟩
theorem xi1 {C : Addr} (r : InitR K C "InvalidWeights.__init__" i1 ["given"]) : Nonempty (Xi P w K mg base C (fl 1)) := by
  obtain ⟨fI, fd, F, iC, tI⟩ := init_of r
  exact ⟨⟨fI, fd, iC, tI, ok_init1 F ⟨rfl, rfl, rfl, by decide +kernel, rfl, by decide +kernel, by decide +kernel⟩ rfl rfl rfl rfl rfl,
    F.binds (ps := ["self", "given"]) fun _ _ _ _ _ _ us hl => match us, hl with | [_, _], _ => rfl,
    kw_mk F fun _ _ _ _ _ _ a ws hl => match ws, hl with | [_], _ => rfl, kw_mk F fun _ _ _ _ _ _ a ws hl => match ws, hl with | [_], _ => rfl⟩⟩
theorem xi2 {C : Addr} (r : InitR K C "InvalidRing.__init__" i2 ["given"]) : Nonempty (Xi P w K mg base C (fl 2)) := by
  obtain ⟨fI, fd, F, iC, tI⟩ := init_of r
  exact ⟨⟨fI, fd, iC, tI, ok_init1 F ⟨rfl, rfl, rfl, by decide +kernel, rfl, by decide +kernel, by decide +kernel⟩ rfl rfl rfl rfl rfl,
    F.binds (ps := ["self", "given"]) fun _ _ _ _ _ _ us hl => match us, hl with | [_, _], _ => rfl,
    kw_mk F fun _ _ _ _ _ _ a ws hl => match ws, hl with | [_], _ => rfl, kw_mk F fun _ _ _ _ _ _ a ws hl => match ws, hl with | [_], _ => rfl⟩⟩
theorem xi3 {C : Addr} (r : InitR K C "InvalidLot.__init__" i3 ["given"]) : Nonempty (Xi P w K mg base C (fl 3)) := by
  obtain ⟨fI, fd, F, iC, tI⟩ := init_of r
  exact ⟨⟨fI, fd, iC, tI, ok_init1 F ⟨rfl, rfl, rfl, by decide +kernel, rfl, by decide +kernel, by decide +kernel⟩ rfl rfl rfl rfl rfl,
    F.binds (ps := ["self", "given"]) fun _ _ _ _ _ _ us hl => match us, hl with | [_, _], _ => rfl,
    kw_mk F fun _ _ _ _ _ _ a ws hl => match ws, hl with | [_], _ => rfl, kw_mk F fun _ _ _ _ _ _ a ws hl => match ws, hl with | [_], _ => rfl⟩⟩
theorem xi4 {C : Addr} (r : InitR K C "InvalidNumber.__init__" i4 ["given"]) : Nonempty (Xi P w K mg base C (fl 4)) := by
  obtain ⟨fI, fd, F, iC, tI⟩ := init_of r
  exact ⟨⟨fI, fd, iC, tI, ok_init1 F ⟨rfl, rfl, rfl, by decide +kernel, rfl, by decide +kernel, by decide +kernel⟩ rfl rfl rfl rfl rfl,
    F.binds (ps := ["self", "given"]) fun _ _ _ _ _ _ us hl => match us, hl with | [_, _], _ => rfl,
    kw_mk F fun _ _ _ _ _ _ a ws hl => match ws, hl with | [_], _ => rfl, kw_mk F fun _ _ _ _ _ _ a ws hl => match ws, hl with | [_], _ => rfl⟩⟩
theorem xi5 {C : Addr} (r : InitR K C "InvalidFraction.__init__" i5 ["given"]) : Nonempty (Xi P w K mg base C (fl 5)) := by
  obtain ⟨fI, fd, F, iC, tI⟩ := init_of r
  exact ⟨⟨fI, fd, iC, tI, ok_init1 F ⟨rfl, rfl, rfl, by decide +kernel, rfl, by decide +kernel, by decide +kernel⟩ rfl rfl rfl rfl rfl,
    F.binds (ps := ["self", "given"]) fun _ _ _ _ _ _ us hl => match us, hl with | [_, _], _ => rfl,
    kw_mk F fun _ _ _ _ _ _ a ws hl => match ws, hl with | [_], _ => rfl, kw_mk F fun _ _ _ _ _ _ a ws hl => match ws, hl with | [_], _ => rfl⟩⟩
theorem xi6 {C : Addr} (r : InitR K C "InvalidFlow.__init__" i6 ["given"]) : Nonempty (Xi P w K mg base C (fl 6)) := by
  obtain ⟨fI, fd, F, iC, tI⟩ := init_of r
  exact ⟨⟨fI, fd, iC, tI, ok_init1 F ⟨rfl, rfl, rfl, by decide +kernel, rfl, by decide +kernel, by decide +kernel⟩ rfl rfl rfl rfl rfl,
    F.binds (ps := ["self", "given"]) fun _ _ _ _ _ _ us hl => match us, hl with | [_, _], _ => rfl,
    kw_mk F fun _ _ _ _ _ _ a ws hl => match ws, hl with | [_], _ => rfl, kw_mk F fun _ _ _ _ _ _ a ws hl => match ws, hl with | [_], _ => rfl⟩⟩
theorem xi7 {C : Addr} (r : InitR K C "InvalidTable.__init__" i7 ["given"]) : Nonempty (Xi P w K mg base C (fl 7)) := by
  obtain ⟨fI, fd, F, iC, tI⟩ := init_of r
  exact ⟨⟨fI, fd, iC, tI, ok_init1 F ⟨rfl, rfl, rfl, by decide +kernel, rfl, by decide +kernel, by decide +kernel⟩ rfl rfl rfl rfl rfl,
    F.binds (ps := ["self", "given"]) fun _ _ _ _ _ _ us hl => match us, hl with | [_, _], _ => rfl,
    kw_mk F fun _ _ _ _ _ _ a ws hl => match ws, hl with | [_], _ => rfl, kw_mk F fun _ _ _ _ _ _ a ws hl => match ws, hl with | [_], _ => rfl⟩⟩
theorem xi8 {C : Addr} (r : InitR K C "InvalidGlasses.__init__" i8 ["given"]) : Nonempty (Xi P w K mg base C (fl 8)) := by
  obtain ⟨fI, fd, F, iC, tI⟩ := init_of r
  exact ⟨⟨fI, fd, iC, tI, ok_init1 F ⟨rfl, rfl, rfl, by decide +kernel, rfl, by decide +kernel, by decide +kernel⟩ rfl rfl rfl rfl rfl,
    F.binds (ps := ["self", "given"]) fun _ _ _ _ _ _ us hl => match us, hl with | [_, _], _ => rfl,
    kw_mk F fun _ _ _ _ _ _ a ws hl => match ws, hl with | [_], _ => rfl, kw_mk F fun _ _ _ _ _ _ a ws hl => match ws, hl with | [_], _ => rfl⟩⟩
theorem xi9 {C : Addr} (r : InitR K C "InvalidSighted.__init__" i9 ["given"]) : Nonempty (Xi P w K mg base C (fl 9)) := by
  obtain ⟨fI, fd, F, iC, tI⟩ := init_of r
  exact ⟨⟨fI, fd, iC, tI, ok_init1 F ⟨rfl, rfl, rfl, by decide +kernel, rfl, by decide +kernel, by decide +kernel⟩ rfl rfl rfl rfl rfl,
    F.binds (ps := ["self", "given"]) fun _ _ _ _ _ _ us hl => match us, hl with | [_, _], _ => rfl,
    kw_mk F fun _ _ _ _ _ _ a ws hl => match ws, hl with | [_], _ => rfl, kw_mk F fun _ _ _ _ _ _ a ws hl => match ws, hl with | [_], _ => rfl⟩⟩
theorem xi10 {C : Addr} (r : InitR K C "InvalidTold.__init__" i10 ["given"]) : Nonempty (Xi P w K mg base C (fl 10)) := by
  obtain ⟨fI, fd, F, iC, tI⟩ := init_of r
  exact ⟨⟨fI, fd, iC, tI, ok_init1 F ⟨rfl, rfl, rfl, by decide +kernel, rfl, by decide +kernel, by decide +kernel⟩ rfl rfl rfl rfl rfl,
    F.binds (ps := ["self", "given"]) fun _ _ _ _ _ _ us hl => match us, hl with | [_, _], _ => rfl,
    kw_mk F fun _ _ _ _ _ _ a ws hl => match ws, hl with | [_], _ => rfl, kw_mk F fun _ _ _ _ _ _ a ws hl => match ws, hl with | [_], _ => rfl⟩⟩
theorem xi11 {C : Addr} (r : InitR K C "InvalidChances.__init__" i11 ["given"]) : Nonempty (Xi P w K mg base C (fl 11)) := by
  obtain ⟨fI, fd, F, iC, tI⟩ := init_of r
  exact ⟨⟨fI, fd, iC, tI, ok_init1 F ⟨rfl, rfl, rfl, by decide +kernel, rfl, by decide +kernel, by decide +kernel⟩ rfl rfl rfl rfl rfl,
    F.binds (ps := ["self", "given"]) fun _ _ _ _ _ _ us hl => match us, hl with | [_, _], _ => rfl,
    kw_mk F fun _ _ _ _ _ _ a ws hl => match ws, hl with | [_], _ => rfl, kw_mk F fun _ _ _ _ _ _ a ws hl => match ws, hl with | [_], _ => rfl⟩⟩
theorem xi12 {C : Addr} (r : InitR K C "NoRow.__init__" i12 ["given"]) : Nonempty (Xi P w K mg base C (fl 12)) := by
  obtain ⟨fI, fd, F, iC, tI⟩ := init_of r
  exact ⟨⟨fI, fd, iC, tI, ok_init1 F ⟨rfl, rfl, rfl, by decide +kernel, rfl, by decide +kernel, by decide +kernel⟩ rfl rfl rfl rfl rfl,
    F.binds (ps := ["self", "given"]) fun _ _ _ _ _ _ us hl => match us, hl with | [_, _], _ => rfl,
    kw_mk F fun _ _ _ _ _ _ a ws hl => match ws, hl with | [_], _ => rfl, kw_mk F fun _ _ _ _ _ _ a ws hl => match ws, hl with | [_], _ => rfl⟩⟩
theorem xi13 {C : Addr} (r : InitR K C "NotADesk.__init__" i13 ["given"]) : Nonempty (Xi P w K mg base C (fl 13)) := by
  obtain ⟨fI, fd, F, iC, tI⟩ := init_of r
  exact ⟨⟨fI, fd, iC, tI, ok_init1 F ⟨rfl, rfl, rfl, by decide +kernel, rfl, by decide +kernel, by decide +kernel⟩ rfl rfl rfl rfl rfl,
    F.binds (ps := ["self", "given"]) fun _ _ _ _ _ _ us hl => match us, hl with | [_, _], _ => rfl,
    kw_mk F fun _ _ _ _ _ _ a ws hl => match ws, hl with | [_], _ => rfl, kw_mk F fun _ _ _ _ _ _ a ws hl => match ws, hl with | [_], _ => rfl⟩⟩
theorem xi14 {C : Addr} (r : InitR K C "TooMany.__init__" i14 ["given"]) : Nonempty (Xi P w K mg base C (fl 14)) := by
  obtain ⟨fI, fd, F, iC, tI⟩ := init_of r
  exact ⟨⟨fI, fd, iC, tI, ok_init1 F ⟨rfl, rfl, rfl, by decide +kernel, rfl, by decide +kernel, by decide +kernel⟩ rfl rfl rfl rfl rfl,
    F.binds (ps := ["self", "given"]) fun _ _ _ _ _ _ us hl => match us, hl with | [_, _], _ => rfl,
    kw_mk F fun _ _ _ _ _ _ a ws hl => match ws, hl with | [_], _ => rfl, kw_mk F fun _ _ _ _ _ _ a ws hl => match ws, hl with | [_], _ => rfl⟩⟩
theorem xi15 {C : Addr} (r : InitR K C "InvalidPlaces.__init__" i15 ["index"]) : Nonempty (Xi P w K mg base C (fl 15)) := by
  obtain ⟨fI, fd, F, iC, tI⟩ := init_of r
  exact ⟨⟨fI, fd, iC, tI, ok_init1 F ⟨rfl, rfl, rfl, by decide +kernel, rfl, by decide +kernel, by decide +kernel⟩ rfl rfl rfl rfl rfl,
    F.binds (ps := ["self", "index"]) fun _ _ _ _ _ _ us hl => match us, hl with | [_, _], _ => rfl,
    kw_mk F fun _ _ _ _ _ _ a ws hl => match ws, hl with | [_], _ => rfl, kw_mk F fun _ _ _ _ _ _ a ws hl => match ws, hl with | [_], _ => rfl⟩⟩
theorem xi16 {C : Addr} (r : InitR K C "InvalidShares.__init__" i16 ["index"]) : Nonempty (Xi P w K mg base C (fl 16)) := by
  obtain ⟨fI, fd, F, iC, tI⟩ := init_of r
  exact ⟨⟨fI, fd, iC, tI, ok_init1 F ⟨rfl, rfl, rfl, by decide +kernel, rfl, by decide +kernel, by decide +kernel⟩ rfl rfl rfl rfl rfl,
    F.binds (ps := ["self", "index"]) fun _ _ _ _ _ _ us hl => match us, hl with | [_, _], _ => rfl,
    kw_mk F fun _ _ _ _ _ _ a ws hl => match ws, hl with | [_], _ => rfl, kw_mk F fun _ _ _ _ _ _ a ws hl => match ws, hl with | [_], _ => rfl⟩⟩
theorem xi17 {C : Addr} (r : InitR K C "InvalidRow.__init__" i17 ["index"]) : Nonempty (Xi P w K mg base C (fl 17)) := by
  obtain ⟨fI, fd, F, iC, tI⟩ := init_of r
  exact ⟨⟨fI, fd, iC, tI, ok_init1 F ⟨rfl, rfl, rfl, by decide +kernel, rfl, by decide +kernel, by decide +kernel⟩ rfl rfl rfl rfl rfl,
    F.binds (ps := ["self", "index"]) fun _ _ _ _ _ _ us hl => match us, hl with | [_, _], _ => rfl,
    kw_mk F fun _ _ _ _ _ _ a ws hl => match ws, hl with | [_], _ => rfl, kw_mk F fun _ _ _ _ _ _ a ws hl => match ws, hl with | [_], _ => rfl⟩⟩
theorem xi18 {C : Addr} (r : InitR K C "InvalidTies.__init__" i18 ["index"]) : Nonempty (Xi P w K mg base C (fl 18)) := by
  obtain ⟨fI, fd, F, iC, tI⟩ := init_of r
  exact ⟨⟨fI, fd, iC, tI, ok_init1 F ⟨rfl, rfl, rfl, by decide +kernel, rfl, by decide +kernel, by decide +kernel⟩ rfl rfl rfl rfl rfl,
    F.binds (ps := ["self", "index"]) fun _ _ _ _ _ _ us hl => match us, hl with | [_, _], _ => rfl,
    kw_mk F fun _ _ _ _ _ _ a ws hl => match ws, hl with | [_], _ => rfl, kw_mk F fun _ _ _ _ _ _ a ws hl => match ws, hl with | [_], _ => rfl⟩⟩
theorem xi19 {C : Addr} (r : InitR K C "InvalidText.__init__" i19 ["line", "place"]) : Nonempty (Xi P w K mg base C (fl 19)) := by
  obtain ⟨fI, fd, F, iC, tI⟩ := init_of r
  exact ⟨⟨fI, fd, iC, tI, ok_init2 F ⟨rfl, rfl, rfl, by decide +kernel, rfl, by decide +kernel, by decide +kernel⟩ rfl rfl rfl rfl rfl rfl rfl rfl,
    F.binds (ps := ["self", "line", "place"]) fun _ _ _ _ _ _ us hl => match us, hl with | [_, _, _], _ => rfl,
    kw_mk F fun _ _ _ _ _ _ a ws hl => match ws, hl with | [_, _], _ => rfl, kw_mk F fun _ _ _ _ _ _ a ws hl => match ws, hl with | [_, _], _ => rfl⟩⟩
theorem xi20 {C : Addr} (r : InitR K C "TwiceNamed.__init__" i20 ["line", "place"]) : Nonempty (Xi P w K mg base C (fl 20)) := by
  obtain ⟨fI, fd, F, iC, tI⟩ := init_of r
  exact ⟨⟨fI, fd, iC, tI, ok_init2 F ⟨rfl, rfl, rfl, by decide +kernel, rfl, by decide +kernel, by decide +kernel⟩ rfl rfl rfl rfl rfl rfl rfl rfl,
    F.binds (ps := ["self", "line", "place"]) fun _ _ _ _ _ _ us hl => match us, hl with | [_, _, _], _ => rfl,
    kw_mk F fun _ _ _ _ _ _ a ws hl => match ws, hl with | [_, _], _ => rfl, kw_mk F fun _ _ _ _ _ _ a ws hl => match ws, hl with | [_, _], _ => rfl⟩⟩
theorem xi21 {C : Addr} (r : InitR K C "UnknownName.__init__" i21 ["line", "place"]) : Nonempty (Xi P w K mg base C (fl 21)) := by
  obtain ⟨fI, fd, F, iC, tI⟩ := init_of r
  exact ⟨⟨fI, fd, iC, tI, ok_init2 F ⟨rfl, rfl, rfl, by decide +kernel, rfl, by decide +kernel, by decide +kernel⟩ rfl rfl rfl rfl rfl rfl rfl rfl,
    F.binds (ps := ["self", "line", "place"]) fun _ _ _ _ _ _ us hl => match us, hl with | [_, _, _], _ => rfl,
    kw_mk F fun _ _ _ _ _ _ a ws hl => match ws, hl with | [_, _], _ => rfl, kw_mk F fun _ _ _ _ _ _ a ws hl => match ws, hl with | [_, _], _ => rfl⟩⟩
theorem xi22 {C : Addr} (r : InitR K C "NoSum.__init__" i22 ["line", "place"]) : Nonempty (Xi P w K mg base C (fl 22)) := by
  obtain ⟨fI, fd, F, iC, tI⟩ := init_of r
  exact ⟨⟨fI, fd, iC, tI, ok_init2 F ⟨rfl, rfl, rfl, by decide +kernel, rfl, by decide +kernel, by decide +kernel⟩ rfl rfl rfl rfl rfl rfl rfl rfl,
    F.binds (ps := ["self", "line", "place"]) fun _ _ _ _ _ _ us hl => match us, hl with | [_, _, _], _ => rfl,
    kw_mk F fun _ _ _ _ _ _ a ws hl => match ws, hl with | [_, _], _ => rfl, kw_mk F fun _ _ _ _ _ _ a ws hl => match ws, hl with | [_, _], _ => rfl⟩⟩
theorem xi23 {C : Addr} (r : InitR K C "NotAlike.__init__" i23 ["ring"]) : Nonempty (Xi P w K mg base C (fl 23)) := by
  obtain ⟨fI, fd, F, iC, tI⟩ := init_of r
  exact ⟨⟨fI, fd, iC, tI, ok_init1 F ⟨rfl, rfl, rfl, by decide +kernel, rfl, by decide +kernel, by decide +kernel⟩ rfl rfl rfl rfl rfl,
    F.binds (ps := ["self", "ring"]) fun _ _ _ _ _ _ us hl => match us, hl with | [_, _], _ => rfl,
    kw_mk F fun _ _ _ _ _ _ a ws hl => match ws, hl with | [_], _ => rfl, kw_mk F fun _ _ _ _ _ _ a ws hl => match ws, hl with | [_], _ => rfl⟩⟩
/-- all classes -/
theorem all_c {C0 C1 C2 C3 C4 C5 C6 C7 C8 C9 C10 C11 C12 C13 C14 C15 C16 C17 C18 C19 C20 C21 C22 C23 C24 C25 C26 C27 : Addr} (X : K.In h) (G : h.Ns mainGlobals mg) (gl : Glob K)
    (c0 : ClsR K 0 C0 C27)
    (c1 : ClsR K 1 C1 C27)
    (c2 : ClsR K 2 C2 C27)
    (c3 : ClsR K 3 C3 C27)
    (c4 : ClsR K 4 C4 C27)
    (c5 : ClsR K 5 C5 C27)
    (c6 : ClsR K 6 C6 C27)
    (c7 : ClsR K 7 C7 C27)
    (c8 : ClsR K 8 C8 C27)
    (c9 : ClsR K 9 C9 C27)
    (c10 : ClsR K 10 C10 C27)
    (c11 : ClsR K 11 C11 C27)
    (c12 : ClsR K 12 C12 C27)
    (c13 : ClsR K 13 C13 C27)
    (c14 : ClsR K 14 C14 C27)
    (c15 : ClsR K 15 C15 C27)
    (c16 : ClsR K 16 C16 C27)
    (c17 : ClsR K 17 C17 C27)
    (c18 : ClsR K 18 C18 C27)
    (c19 : ClsR K 19 C19 C27)
    (c20 : ClsR K 20 C20 C27)
    (c21 : ClsR K 21 C21 C27)
    (c22 : ClsR K 22 C22 C27)
    (c23 : ClsR K 23 C23 C27)
    (c24 : ClsR K 24 C24 C27)
    (c25 : ClsR K 25 C25 C27)
    (c26 : ClsR K 26 C26 C27)
    (c27 : ClsR K 27 C27 C27)
    (n0 : InitR K C0 "InvalidWalk.__init__" i0 ["given"])
    (n1 : InitR K C1 "InvalidWeights.__init__" i1 ["given"])
    (n2 : InitR K C2 "InvalidRing.__init__" i2 ["given"])
    (n3 : InitR K C3 "InvalidLot.__init__" i3 ["given"])
    (n4 : InitR K C4 "InvalidNumber.__init__" i4 ["given"])
    (n5 : InitR K C5 "InvalidFraction.__init__" i5 ["given"])
    (n6 : InitR K C6 "InvalidFlow.__init__" i6 ["given"])
    (n7 : InitR K C7 "InvalidTable.__init__" i7 ["given"])
    (n8 : InitR K C8 "InvalidGlasses.__init__" i8 ["given"])
    (n9 : InitR K C9 "InvalidSighted.__init__" i9 ["given"])
    (n10 : InitR K C10 "InvalidTold.__init__" i10 ["given"])
    (n11 : InitR K C11 "InvalidChances.__init__" i11 ["given"])
    (n12 : InitR K C12 "NoRow.__init__" i12 ["given"])
    (n13 : InitR K C13 "NotADesk.__init__" i13 ["given"])
    (n14 : InitR K C14 "TooMany.__init__" i14 ["given"])
    (n15 : InitR K C15 "InvalidPlaces.__init__" i15 ["index"])
    (n16 : InitR K C16 "InvalidShares.__init__" i16 ["index"])
    (n17 : InitR K C17 "InvalidRow.__init__" i17 ["index"])
    (n18 : InitR K C18 "InvalidTies.__init__" i18 ["index"])
    (n19 : InitR K C19 "InvalidText.__init__" i19 ["line", "place"])
    (n20 : InitR K C20 "TwiceNamed.__init__" i20 ["line", "place"])
    (n21 : InitR K C21 "UnknownName.__init__" i21 ["line", "place"])
    (n22 : InitR K C22 "NoSum.__init__" i22 ["line", "place"])
    (n23 : InitR K C23 "NotAlike.__init__" i23 ["ring"])
    (e24 : PySem.W.excIn K C24 PySem.HandSPX.veTail "ValueError.__new__" = true)
    (e25 : PySem.W.excIn K C25 PySem.HandSPX.veTail "ValueError.__new__" = true)
    (e26 : PySem.W.excIn K C26 PySem.HandSPX.veTail "ValueError.__new__" = true)
    (e27 : PySem.W.excIn K C27 PySem.HandSPX.veTail "ValueError.__new__" = true)
    : ∃ C : Nat → Addr, AllC K mg C ∧ Nonempty (∀ i, i < 24 → Xi P w K mg base (C i) (fl i)) := by
  obtain ⟨x0⟩ := xi0 (P := P) (w := w) (mg := mg) (base := base) n0
  obtain ⟨x1⟩ := xi1 (P := P) (w := w) (mg := mg) (base := base) n1
  obtain ⟨x2⟩ := xi2 (P := P) (w := w) (mg := mg) (base := base) n2
  obtain ⟨x3⟩ := xi3 (P := P) (w := w) (mg := mg) (base := base) n3
  obtain ⟨x4⟩ := xi4 (P := P) (w := w) (mg := mg) (base := base) n4
  obtain ⟨x5⟩ := xi5 (P := P) (w := w) (mg := mg) (base := base) n5
  obtain ⟨x6⟩ := xi6 (P := P) (w := w) (mg := mg) (base := base) n6
  obtain ⟨x7⟩ := xi7 (P := P) (w := w) (mg := mg) (base := base) n7
  obtain ⟨x8⟩ := xi8 (P := P) (w := w) (mg := mg) (base := base) n8
  obtain ⟨x9⟩ := xi9 (P := P) (w := w) (mg := mg) (base := base) n9
  obtain ⟨x10⟩ := xi10 (P := P) (w := w) (mg := mg) (base := base) n10
  obtain ⟨x11⟩ := xi11 (P := P) (w := w) (mg := mg) (base := base) n11
  obtain ⟨x12⟩ := xi12 (P := P) (w := w) (mg := mg) (base := base) n12
  obtain ⟨x13⟩ := xi13 (P := P) (w := w) (mg := mg) (base := base) n13
  obtain ⟨x14⟩ := xi14 (P := P) (w := w) (mg := mg) (base := base) n14
  obtain ⟨x15⟩ := xi15 (P := P) (w := w) (mg := mg) (base := base) n15
  obtain ⟨x16⟩ := xi16 (P := P) (w := w) (mg := mg) (base := base) n16
  obtain ⟨x17⟩ := xi17 (P := P) (w := w) (mg := mg) (base := base) n17
  obtain ⟨x18⟩ := xi18 (P := P) (w := w) (mg := mg) (base := base) n18
  obtain ⟨x19⟩ := xi19 (P := P) (w := w) (mg := mg) (base := base) n19
  obtain ⟨x20⟩ := xi20 (P := P) (w := w) (mg := mg) (base := base) n20
  obtain ⟨x21⟩ := xi21 (P := P) (w := w) (mg := mg) (base := base) n21
  obtain ⟨x22⟩ := xi22 (P := P) (w := w) (mg := mg) (base := base) n22
  obtain ⟨x23⟩ := xi23 (P := P) (w := w) (mg := mg) (base := base) n23
  refine ⟨fun i => [C0, C1, C2, C3, C4, C5, C6, C7, C8, C9, C10, C11, C12, C13, C14, C15, C16, C17, C18, C19, C20, C21, C22, C23, C24, C25, C26, C27].getD i 0, ⟨fun i hi => ?_, gl, fun i hi => ?_, fun i h1 hi => ?_⟩, ⟨fun i hi => ?_⟩⟩
  · exact match i, hi with
    | 0, _ => cls_of X G c0
    | 1, _ => cls_of X G c1
    | 2, _ => cls_of X G c2
    | 3, _ => cls_of X G c3
    | 4, _ => cls_of X G c4
    | 5, _ => cls_of X G c5
    | 6, _ => cls_of X G c6
    | 7, _ => cls_of X G c7
    | 8, _ => cls_of X G c8
    | 9, _ => cls_of X G c9
    | 10, _ => cls_of X G c10
    | 11, _ => cls_of X G c11
    | 12, _ => cls_of X G c12
    | 13, _ => cls_of X G c13
    | 14, _ => cls_of X G c14
    | 15, _ => cls_of X G c15
    | 16, _ => cls_of X G c16
    | 17, _ => cls_of X G c17
    | 18, _ => cls_of X G c18
    | 19, _ => cls_of X G c19
    | 20, _ => cls_of X G c20
    | 21, _ => cls_of X G c21
    | 22, _ => cls_of X G c22
    | 23, _ => cls_of X G c23
    | 24, _ => cls_of X G c24
    | 25, _ => cls_of X G c25
    | 26, _ => cls_of X G c26
    | 27, _ => cls_of X G c27
    | n + 28, h => absurd h (by omega)
  · exact match i, hi with
    | 0, _ => n0.no
    | 1, _ => n1.no
    | 2, _ => n2.no
    | 3, _ => n3.no
    | 4, _ => n4.no
    | 5, _ => n5.no
    | 6, _ => n6.no
    | 7, _ => n7.no
    | 8, _ => n8.no
    | 9, _ => n9.no
    | 10, _ => n10.no
    | 11, _ => n11.no
    | 12, _ => n12.no
    | 13, _ => n13.no
    | 14, _ => n14.no
    | 15, _ => n15.no
    | 16, _ => n16.no
    | 17, _ => n17.no
    | 18, _ => n18.no
    | 19, _ => n19.no
    | 20, _ => n20.no
    | 21, _ => n21.no
    | 22, _ => n22.no
    | 23, _ => n23.no
    | n + 24, h => absurd h (by omega)
  · exact match i, h1, hi with
    | 24, _, _ => e24
    | 25, _, _ => e25
    | 26, _, _ => e26
    | 27, _, _ => e27
    | n + 28, _, h => absurd h (by omega)
    | 0, h, _ => absurd h (by decide)
    | 1, h, _ => absurd h (by decide)
    | 2, h, _ => absurd h (by decide)
    | 3, h, _ => absurd h (by decide)
    | 4, h, _ => absurd h (by decide)
    | 5, h, _ => absurd h (by decide)
    | 6, h, _ => absurd h (by decide)
    | 7, h, _ => absurd h (by decide)
    | 8, h, _ => absurd h (by decide)
    | 9, h, _ => absurd h (by decide)
    | 10, h, _ => absurd h (by decide)
    | 11, h, _ => absurd h (by decide)
    | 12, h, _ => absurd h (by decide)
    | 13, h, _ => absurd h (by decide)
    | 14, h, _ => absurd h (by decide)
    | 15, h, _ => absurd h (by decide)
    | 16, h, _ => absurd h (by decide)
    | 17, h, _ => absurd h (by decide)
    | 18, h, _ => absurd h (by decide)
    | 19, h, _ => absurd h (by decide)
    | 20, h, _ => absurd h (by decide)
    | 21, h, _ => absurd h (by decide)
    | 22, h, _ => absurd h (by decide)
    | 23, h, _ => absurd h (by decide)
  · exact match i, hi with
    | 0, _ => x0
    | 1, _ => x1
    | 2, _ => x2
    | 3, _ => x3
    | 4, _ => x4
    | 5, _ => x5
    | 6, _ => x6
    | 7, _ => x7
    | 8, _ => x8
    | 9, _ => x9
    | 10, _ => x10
    | 11, _ => x11
    | 12, _ => x12
    | 13, _ => x13
    | 14, _ => x14
    | 15, _ => x15
    | 16, _ => x16
    | 17, _ => x17
    | 18, _ => x18
    | 19, _ => x19
    | 20, _ => x20
    | 21, _ => x21
    | 22, _ => x22
    | 23, _ => x23
    | n + 24, h => absurd h (by omega)
/-- all defs -/
theorem all_mk {C0 C1 C2 C3 C4 C5 C6 C7 C8 C9 C10 C11 C12 C13 C14 C15 C16 C17 C18 C19 C20 C21 C22 C23 C24 C25 C26 C27 fa : Addr} (X : K.In h) (G : h.Ns mainGlobals mg) (hfa : mg "law" = some (.ref fa)) (gl : Glob K)
    (c0 : ClsR K 0 C0 C27)
    (c1 : ClsR K 1 C1 C27)
    (c2 : ClsR K 2 C2 C27)
    (c3 : ClsR K 3 C3 C27)
    (c4 : ClsR K 4 C4 C27)
    (c5 : ClsR K 5 C5 C27)
    (c6 : ClsR K 6 C6 C27)
    (c7 : ClsR K 7 C7 C27)
    (c8 : ClsR K 8 C8 C27)
    (c9 : ClsR K 9 C9 C27)
    (c10 : ClsR K 10 C10 C27)
    (c11 : ClsR K 11 C11 C27)
    (c12 : ClsR K 12 C12 C27)
    (c13 : ClsR K 13 C13 C27)
    (c14 : ClsR K 14 C14 C27)
    (c15 : ClsR K 15 C15 C27)
    (c16 : ClsR K 16 C16 C27)
    (c17 : ClsR K 17 C17 C27)
    (c18 : ClsR K 18 C18 C27)
    (c19 : ClsR K 19 C19 C27)
    (c20 : ClsR K 20 C20 C27)
    (c21 : ClsR K 21 C21 C27)
    (c22 : ClsR K 22 C22 C27)
    (c23 : ClsR K 23 C23 C27)
    (c24 : ClsR K 24 C24 C27)
    (c25 : ClsR K 25 C25 C27)
    (c26 : ClsR K 26 C26 C27)
    (c27 : ClsR K 27 C27 C27)
    (n0 : InitR K C0 "InvalidWalk.__init__" i0 ["given"])
    (n1 : InitR K C1 "InvalidWeights.__init__" i1 ["given"])
    (n2 : InitR K C2 "InvalidRing.__init__" i2 ["given"])
    (n3 : InitR K C3 "InvalidLot.__init__" i3 ["given"])
    (n4 : InitR K C4 "InvalidNumber.__init__" i4 ["given"])
    (n5 : InitR K C5 "InvalidFraction.__init__" i5 ["given"])
    (n6 : InitR K C6 "InvalidFlow.__init__" i6 ["given"])
    (n7 : InitR K C7 "InvalidTable.__init__" i7 ["given"])
    (n8 : InitR K C8 "InvalidGlasses.__init__" i8 ["given"])
    (n9 : InitR K C9 "InvalidSighted.__init__" i9 ["given"])
    (n10 : InitR K C10 "InvalidTold.__init__" i10 ["given"])
    (n11 : InitR K C11 "InvalidChances.__init__" i11 ["given"])
    (n12 : InitR K C12 "NoRow.__init__" i12 ["given"])
    (n13 : InitR K C13 "NotADesk.__init__" i13 ["given"])
    (n14 : InitR K C14 "TooMany.__init__" i14 ["given"])
    (n15 : InitR K C15 "InvalidPlaces.__init__" i15 ["index"])
    (n16 : InitR K C16 "InvalidShares.__init__" i16 ["index"])
    (n17 : InitR K C17 "InvalidRow.__init__" i17 ["index"])
    (n18 : InitR K C18 "InvalidTies.__init__" i18 ["index"])
    (n19 : InitR K C19 "InvalidText.__init__" i19 ["line", "place"])
    (n20 : InitR K C20 "TwiceNamed.__init__" i20 ["line", "place"])
    (n21 : InitR K C21 "UnknownName.__init__" i21 ["line", "place"])
    (n22 : InitR K C22 "NoSum.__init__" i22 ["line", "place"])
    (n23 : InitR K C23 "NotAlike.__init__" i23 ["ring"])
    (e24 : PySem.W.excIn K C24 PySem.HandSPX.veTail "ValueError.__new__" = true)
    (e25 : PySem.W.excIn K C25 PySem.HandSPX.veTail "ValueError.__new__" = true)
    (e26 : PySem.W.excIn K C26 PySem.HandSPX.veTail "ValueError.__new__" = true)
    (e27 : PySem.W.excIn K C27 PySem.HandSPX.veTail "ValueError.__new__" = true)
    (d_law_well : DefR K "_law_well" s_law_well)
    (d_law_pick : DefR K "_law_pick" s_law_pick)
    (d_law_of : DefR K "_law_of" s_law_of)
    (d_law_thing : DefR K "_law_thing" s_law_thing)
    (d_law_named : DefR K "_law_named" s_law_named)
    (d_law_placed : DefR K "_law_placed" s_law_placed)
    (d_law_under : DefR K "_law_under" s_law_under)
    (d_law_is_plain : DefR K "_law_is_plain" s_law_is_plain)
    (d_law_keeps : DefR K "_law_keeps" s_law_keeps)
    (d_law_right : DefR K "_law_right" s_law_right)
    (dlaw : DefR K "law" slaw)
    (zint : PySem.W.nsIn K mainGlobals "int" = some none)
    (zlen : PySem.W.nsIn K mainGlobals "len" = some none)
    (zabs : PySem.W.nsIn K mainGlobals "abs" = some none)
    (zdivmod : PySem.W.nsIn K mainGlobals "divmod" = some none)
    (zrange : PySem.W.nsIn K mainGlobals "range" = some none)
    (zenumerate : PySem.W.nsIn K mainGlobals "enumerate" = some none)
    (zisinstance : PySem.W.nsIn K mainGlobals "isinstance" = some none)
    (zrepr : PySem.W.nsIn K mainGlobals "repr" = some none)
    (zValueError : PySem.W.nsIn K mainGlobals "ValueError" = some none)
    (zException : PySem.W.nsIn K mainGlobals "Exception" = some none)
    (zLookupError : PySem.W.nsIn K mainGlobals "LookupError" = some none)
    (zArithmeticError : PySem.W.nsIn K mainGlobals "ArithmeticError" = some none)
    (zTypeError : PySem.W.nsIn K mainGlobals "TypeError" = some none)
    (zRuntimeError : PySem.W.nsIn K mainGlobals "RuntimeError" = some none)
    (zAttributeError : PySem.W.nsIn K mainGlobals "AttributeError" = some none)
    (zStopIteration : PySem.W.nsIn K mainGlobals "StopIteration" = some none)
    : ∃ fd : FuncData, (∀ (s : Shared) (u : Value), BindsTo s fd ⟨[u], []⟩ [("script", u)]) ∧ ∀ base : Heap, K.In base → base.Ns mainGlobals mg → FnG P w K mg base 5 fa fd ["script"] (spLaw K) := by
  have M : Mb mg := ⟨PySem.W.mg_none_of X G zint, PySem.W.mg_none_of X G zlen, PySem.W.mg_none_of X G zabs, PySem.W.mg_none_of X G zdivmod, PySem.W.mg_none_of X G zrange, PySem.W.mg_none_of X G zenumerate, PySem.W.mg_none_of X G zisinstance, PySem.W.mg_none_of X G zrepr⟩
  have B : Bc mg := ⟨PySem.W.mg_none_of X G zValueError, PySem.W.mg_none_of X G zException, PySem.W.mg_none_of X G zLookupError, PySem.W.mg_none_of X G zArithmeticError, PySem.W.mg_none_of X G zTypeError, PySem.W.mg_none_of X G zRuntimeError, PySem.W.mg_none_of X G zAttributeError, PySem.W.mg_none_of X G zStopIteration⟩
  obtain ⟨f_law_well, fd_law_well, F_law_well, g_law_well⟩ := def_of X G d_law_well
  obtain ⟨f_law_pick, fd_law_pick, F_law_pick, g_law_pick⟩ := def_of X G d_law_pick
  obtain ⟨f_law_of, fd_law_of, F_law_of, g_law_of⟩ := def_of X G d_law_of
  obtain ⟨f_law_thing, fd_law_thing, F_law_thing, g_law_thing⟩ := def_of X G d_law_thing
  obtain ⟨f_law_named, fd_law_named, F_law_named, g_law_named⟩ := def_of X G d_law_named
  obtain ⟨f_law_placed, fd_law_placed, F_law_placed, g_law_placed⟩ := def_of X G d_law_placed
  obtain ⟨f_law_under, fd_law_under, F_law_under, g_law_under⟩ := def_of X G d_law_under
  obtain ⟨f_law_is_plain, fd_law_is_plain, F_law_is_plain, g_law_is_plain⟩ := def_of X G d_law_is_plain
  obtain ⟨f_law_keeps, fd_law_keeps, F_law_keeps, g_law_keeps⟩ := def_of X G d_law_keeps
  obtain ⟨f_law_right, fd_law_right, F_law_right, g_law_right⟩ := def_of X G d_law_right
  obtain ⟨flaw, fdlaw, Flaw, glaw⟩ := def_of X G dlaw
  have e := hfa.symm.trans glaw
  cases e
  have bl := Flaw.binds (ps := ["script"]) fun _ _ _ _ _ _ us hl => match us, hl with | [_], _ => rfl
  refine ⟨fdlaw, law_binds Flaw, fun base _ _ => ?_⟩
  obtain ⟨C, A, ⟨XI⟩⟩ := all_c (P := P) (w := w) (base := base) X G gl c0 c1 c2 c3 c4 c5 c6 c7 c8 c9 c10 c11 c12 c13 c14 c15 c16 c17 c18 c19 c20 c21 c22 c23 c24 c25 c26 c27 n0 n1 n2 n3 n4 n5 n6 n7 n8 n9 n10 n11 n12 n13 n14 n15 n16 n17 n18 n19 n20 n21 n22 n23 e24 e25 e26 e27
  let Dlaw_well : Df P w K mg base 1 "_law_well" ["script", "salt"] _ := ⟨f_law_well, fd_law_well, g_law_well, F_law_well.kp, F_law_well.binds (ps := ["script", "salt"]) fun _ _ _ _ _ _ us hl => match us, hl with | [_, _], _ => rfl, ok_well F_law_well M⟩
  let Dlaw_pick : Df P w K mg base 1 "_law_pick" ["well", "limit"] _ := ⟨f_law_pick, fd_law_pick, g_law_pick, F_law_pick.kp, F_law_pick.binds (ps := ["well", "limit"]) fun _ _ _ _ _ _ us hl => match us, hl with | [_, _], _ => rfl, ok_pick F_law_pick M⟩
  let Dlaw_of : Df P w K mg base 2 "_law_of" ["well", "some"] _ := ⟨f_law_of, fd_law_of, g_law_of, F_law_of.kp, F_law_of.binds (ps := ["well", "some"]) fun _ _ _ _ _ _ us hl => match us, hl with | [_, _], _ => rfl, ok_of F_law_of M Dlaw_pick⟩
  let Dlaw_thing : Df P w K mg base 3 "_law_thing" ["well"] _ := ⟨f_law_thing, fd_law_thing, g_law_thing, F_law_thing.kp, F_law_thing.binds (ps := ["well"]) fun _ _ _ _ _ _ us hl => match us, hl with | [_], _ => rfl, ok_thing F_law_thing Dlaw_pick Dlaw_of⟩
  let Dlaw_named : Df P w K mg base 3 "_law_named" ["here", "there"] _ := ⟨f_law_named, fd_law_named, g_law_named, F_law_named.kp, F_law_named.binds (ps := ["here", "there"]) fun _ _ _ _ _ _ us hl => match us, hl with | [_, _], _ => rfl, ok_named F_law_named A XI⟩
  let Dlaw_placed : Df P w K mg base 3 "_law_placed" ["here", "there"] _ := ⟨f_law_placed, fd_law_placed, g_law_placed, F_law_placed.kp, F_law_placed.binds (ps := ["here", "there"]) fun _ _ _ _ _ _ us hl => match us, hl with | [_, _], _ => rfl, ok_placed F_law_placed A XI⟩
  let Dlaw_under : Df P w K mg base 1 "_law_under" ["made"] _ := ⟨f_law_under, fd_law_under, g_law_under, F_law_under.kp, F_law_under.binds (ps := ["made"]) fun _ _ _ _ _ _ us hl => match us, hl with | [_], _ => rfl, ok_under F_law_under A M⟩
  let Dlaw_is_plain : Df P w K mg base 1 "_law_is_plain" ["made"] _ := ⟨f_law_is_plain, fd_law_is_plain, g_law_is_plain, F_law_is_plain.kp, F_law_is_plain.binds (ps := ["made"]) fun _ _ _ _ _ _ us hl => match us, hl with | [_], _ => rfl, ok_plain F_law_is_plain A M B⟩
  let Dlaw_keeps : Dg P w K mg base 2 "_law_keeps" ["made", "here", "there"] _ := ⟨f_law_keeps, fd_law_keeps, g_law_keeps, F_law_keeps.kp, F_law_keeps.binds (ps := ["made", "here", "there"]) fun _ _ _ _ _ _ us hl => match us, hl with | [_, _, _], _ => rfl, ok_keeps F_law_keeps A M Dlaw_under Dlaw_is_plain⟩
  let Dlaw_right : Dg P w K mg base 4 "_law_right" ["well"] _ := ⟨f_law_right, fd_law_right, g_law_right, F_law_right.kp, F_law_right.binds (ps := ["well"]) fun _ _ _ _ _ _ us hl => match us, hl with | [_], _ => rfl, ok_right F_law_right Dlaw_thing Dlaw_named Dlaw_placed Dlaw_keeps⟩
  exact ok_law Flaw M Dlaw_well Dlaw_right
end
end Kx
open PySem PySem.W PyProof.Rows
set_option maxRecDepth 100000 in
set_option maxHeartbeats 0 in
theorem PySem.Challenge.cw_backwalks_k01_errors_each_of_its_own_holds : PySem.Challenge.rw_backwalks_k01_errors_each_of_its_own.Holds := by
  w_on; o_law; k_head; (case hw => w_witness2)
  k_fill
  refine Bw.walk_G (l := PySem.Challenge.rw_backwalks_k01_errors_each_of_its_own) (n := 63) (k := 5) (x := "script") (sp := Kx.spLaw) rfl (by decide) rfl ⟨rfl, by decide, by decide⟩ (fun w h Y => PySem.W.kIn_of Y) ?F (fun K H a ns hl _ hS => ⟨a, ns, rfl, hS, hl, fun _ => rfl⟩)
  case F =>
    intro w mg fa h KX G hmg
    refine' Kx.all_mk KX G hmg ?gl ?c0 ?c1 ?c2 ?c3 ?c4 ?c5 ?c6 ?c7 ?c8 ?c9 ?c10 ?c11 ?c12 ?c13 ?c14 ?c15 ?c16 ?c17 ?c18 ?c19 ?c20 ?c21 ?c22 ?c23 ?c24 ?c25 ?c26 ?c27 ?n0 ?n1 ?n2 ?n3 ?n4 ?n5 ?n6 ?n7 ?n8 ?n9 ?n10 ?n11 ?n12 ?n13 ?n14 ?n15 ?n16 ?n17 ?n18 ?n19 ?n20 ?n21 ?n22 ?n23 ?e24 ?e25 ?e26 ?e27 ?d_law_well ?d_law_pick ?d_law_of ?d_law_thing ?d_law_named ?d_law_placed ?d_law_under ?d_law_is_plain ?d_law_keeps ?d_law_right ?dlaw ?zint ?zlen ?zabs ?zdivmod ?zrange ?zenumerate ?zisinstance ?zrepr ?zValueError ?zException ?zLookupError ?zArithmeticError ?zTypeError ?zRuntimeError ?zAttributeError ?zStopIteration
    (case gl => exact ⟨by k_is, by k_is⟩)
    (case c27 => exact ⟨by k_is, ⟨_, _, _, _, _, _, _, _, _, _, _, _, _, by k_is⟩, by k_is, by k_is, by k_is, by k_is, by k_is⟩)
    (case c0 => exact ⟨by k_is, ⟨_, _, _, _, _, _, _, _, _, _, _, _, _, by k_is⟩, by k_is, by k_is, by k_is, by k_is, by k_is⟩)
    (case c1 => exact ⟨by k_is, ⟨_, _, _, _, _, _, _, _, _, _, _, _, _, by k_is⟩, by k_is, by k_is, by k_is, by k_is, by k_is⟩)
    (case c2 => exact ⟨by k_is, ⟨_, _, _, _, _, _, _, _, _, _, _, _, _, by k_is⟩, by k_is, by k_is, by k_is, by k_is, by k_is⟩)
    (case c3 => exact ⟨by k_is, ⟨_, _, _, _, _, _, _, _, _, _, _, _, _, by k_is⟩, by k_is, by k_is, by k_is, by k_is, by k_is⟩)
    (case c4 => exact ⟨by k_is, ⟨_, _, _, _, _, _, _, _, _, _, _, _, _, by k_is⟩, by k_is, by k_is, by k_is, by k_is, by k_is⟩)
    (case c5 => exact ⟨by k_is, ⟨_, _, _, _, _, _, _, _, _, _, _, _, _, by k_is⟩, by k_is, by k_is, by k_is, by k_is, by k_is⟩)
    (case c6 => exact ⟨by k_is, ⟨_, _, _, _, _, _, _, _, _, _, _, _, _, by k_is⟩, by k_is, by k_is, by k_is, by k_is, by k_is⟩)
    (case c7 => exact ⟨by k_is, ⟨_, _, _, _, _, _, _, _, _, _, _, _, _, by k_is⟩, by k_is, by k_is, by k_is, by k_is, by k_is⟩)
    (case c8 => exact ⟨by k_is, ⟨_, _, _, _, _, _, _, _, _, _, _, _, _, by k_is⟩, by k_is, by k_is, by k_is, by k_is, by k_is⟩)
    (case c9 => exact ⟨by k_is, ⟨_, _, _, _, _, _, _, _, _, _, _, _, _, by k_is⟩, by k_is, by k_is, by k_is, by k_is, by k_is⟩)
    (case c10 => exact ⟨by k_is, ⟨_, _, _, _, _, _, _, _, _, _, _, _, _, by k_is⟩, by k_is, by k_is, by k_is, by k_is, by k_is⟩)
    (case c11 => exact ⟨by k_is, ⟨_, _, _, _, _, _, _, _, _, _, _, _, _, by k_is⟩, by k_is, by k_is, by k_is, by k_is, by k_is⟩)
    (case c12 => exact ⟨by k_is, ⟨_, _, _, _, _, _, _, _, _, _, _, _, _, by k_is⟩, by k_is, by k_is, by k_is, by k_is, by k_is⟩)
    (case c13 => exact ⟨by k_is, ⟨_, _, _, _, _, _, _, _, _, _, _, _, _, by k_is⟩, by k_is, by k_is, by k_is, by k_is, by k_is⟩)
    (case c14 => exact ⟨by k_is, ⟨_, _, _, _, _, _, _, _, _, _, _, _, _, by k_is⟩, by k_is, by k_is, by k_is, by k_is, by k_is⟩)
    (case c15 => exact ⟨by k_is, ⟨_, _, _, _, _, _, _, _, _, _, _, _, _, by k_is⟩, by k_is, by k_is, by k_is, by k_is, by k_is⟩)
    (case c16 => exact ⟨by k_is, ⟨_, _, _, _, _, _, _, _, _, _, _, _, _, by k_is⟩, by k_is, by k_is, by k_is, by k_is, by k_is⟩)
    (case c17 => exact ⟨by k_is, ⟨_, _, _, _, _, _, _, _, _, _, _, _, _, by k_is⟩, by k_is, by k_is, by k_is, by k_is, by k_is⟩)
    (case c18 => exact ⟨by k_is, ⟨_, _, _, _, _, _, _, _, _, _, _, _, _, by k_is⟩, by k_is, by k_is, by k_is, by k_is, by k_is⟩)
    (case c19 => exact ⟨by k_is, ⟨_, _, _, _, _, _, _, _, _, _, _, _, _, by k_is⟩, by k_is, by k_is, by k_is, by k_is, by k_is⟩)
    (case c20 => exact ⟨by k_is, ⟨_, _, _, _, _, _, _, _, _, _, _, _, _, by k_is⟩, by k_is, by k_is, by k_is, by k_is, by k_is⟩)
    (case c21 => exact ⟨by k_is, ⟨_, _, _, _, _, _, _, _, _, _, _, _, _, by k_is⟩, by k_is, by k_is, by k_is, by k_is, by k_is⟩)
    (case c22 => exact ⟨by k_is, ⟨_, _, _, _, _, _, _, _, _, _, _, _, _, by k_is⟩, by k_is, by k_is, by k_is, by k_is, by k_is⟩)
    (case c23 => exact ⟨by k_is, ⟨_, _, _, _, _, _, _, _, _, _, _, _, _, by k_is⟩, by k_is, by k_is, by k_is, by k_is, by k_is⟩)
    (case c24 => exact ⟨by k_is, ⟨_, _, _, _, _, _, _, _, _, _, _, _, _, by k_is⟩, by k_is, by k_is, by k_is, by k_is, by k_is⟩)
    (case c25 => exact ⟨by k_is, ⟨_, _, _, _, _, _, _, _, _, _, _, _, _, by k_is⟩, by k_is, by k_is, by k_is, by k_is, by k_is⟩)
    (case c26 => exact ⟨by k_is, ⟨_, _, _, _, _, _, _, _, _, _, _, _, _, by k_is⟩, by k_is, by k_is, by k_is, by k_is, by k_is⟩)
    (case n0 => exact ⟨⟨_, _, _, _, _, _, _, _, _, _, by k_is, by k_is, by k_is, by k_is, by k_is⟩, by exact fun f hf => by simp only [List.mem_cons, List.not_mem_nil, or_false] at hf; (subst hf; k_is)⟩)
    (case n1 => exact ⟨⟨_, _, _, _, _, _, _, _, _, _, by k_is, by k_is, by k_is, by k_is, by k_is⟩, by exact fun f hf => by simp only [List.mem_cons, List.not_mem_nil, or_false] at hf; (subst hf; k_is)⟩)
    (case n2 => exact ⟨⟨_, _, _, _, _, _, _, _, _, _, by k_is, by k_is, by k_is, by k_is, by k_is⟩, by exact fun f hf => by simp only [List.mem_cons, List.not_mem_nil, or_false] at hf; (subst hf; k_is)⟩)
    (case n3 => exact ⟨⟨_, _, _, _, _, _, _, _, _, _, by k_is, by k_is, by k_is, by k_is, by k_is⟩, by exact fun f hf => by simp only [List.mem_cons, List.not_mem_nil, or_false] at hf; (subst hf; k_is)⟩)
    (case n4 => exact ⟨⟨_, _, _, _, _, _, _, _, _, _, by k_is, by k_is, by k_is, by k_is, by k_is⟩, by exact fun f hf => by simp only [List.mem_cons, List.not_mem_nil, or_false] at hf; (subst hf; k_is)⟩)
    (case n5 => exact ⟨⟨_, _, _, _, _, _, _, _, _, _, by k_is, by k_is, by k_is, by k_is, by k_is⟩, by exact fun f hf => by simp only [List.mem_cons, List.not_mem_nil, or_false] at hf; (subst hf; k_is)⟩)
    (case n6 => exact ⟨⟨_, _, _, _, _, _, _, _, _, _, by k_is, by k_is, by k_is, by k_is, by k_is⟩, by exact fun f hf => by simp only [List.mem_cons, List.not_mem_nil, or_false] at hf; (subst hf; k_is)⟩)
    (case n7 => exact ⟨⟨_, _, _, _, _, _, _, _, _, _, by k_is, by k_is, by k_is, by k_is, by k_is⟩, by exact fun f hf => by simp only [List.mem_cons, List.not_mem_nil, or_false] at hf; (subst hf; k_is)⟩)
    (case n8 => exact ⟨⟨_, _, _, _, _, _, _, _, _, _, by k_is, by k_is, by k_is, by k_is, by k_is⟩, by exact fun f hf => by simp only [List.mem_cons, List.not_mem_nil, or_false] at hf; (subst hf; k_is)⟩)
    (case n9 => exact ⟨⟨_, _, _, _, _, _, _, _, _, _, by k_is, by k_is, by k_is, by k_is, by k_is⟩, by exact fun f hf => by simp only [List.mem_cons, List.not_mem_nil, or_false] at hf; (subst hf; k_is)⟩)
    (case n10 => exact ⟨⟨_, _, _, _, _, _, _, _, _, _, by k_is, by k_is, by k_is, by k_is, by k_is⟩, by exact fun f hf => by simp only [List.mem_cons, List.not_mem_nil, or_false] at hf; (subst hf; k_is)⟩)
    (case n11 => exact ⟨⟨_, _, _, _, _, _, _, _, _, _, by k_is, by k_is, by k_is, by k_is, by k_is⟩, by exact fun f hf => by simp only [List.mem_cons, List.not_mem_nil, or_false] at hf; (subst hf; k_is)⟩)
    (case n12 => exact ⟨⟨_, _, _, _, _, _, _, _, _, _, by k_is, by k_is, by k_is, by k_is, by k_is⟩, by exact fun f hf => by simp only [List.mem_cons, List.not_mem_nil, or_false] at hf; (subst hf; k_is)⟩)
    (case n13 => exact ⟨⟨_, _, _, _, _, _, _, _, _, _, by k_is, by k_is, by k_is, by k_is, by k_is⟩, by exact fun f hf => by simp only [List.mem_cons, List.not_mem_nil, or_false] at hf; (subst hf; k_is)⟩)
    (case n14 => exact ⟨⟨_, _, _, _, _, _, _, _, _, _, by k_is, by k_is, by k_is, by k_is, by k_is⟩, by exact fun f hf => by simp only [List.mem_cons, List.not_mem_nil, or_false] at hf; (subst hf; k_is)⟩)
    (case n15 => exact ⟨⟨_, _, _, _, _, _, _, _, _, _, by k_is, by k_is, by k_is, by k_is, by k_is⟩, by exact fun f hf => by simp only [List.mem_cons, List.not_mem_nil, or_false] at hf; (subst hf; k_is)⟩)
    (case n16 => exact ⟨⟨_, _, _, _, _, _, _, _, _, _, by k_is, by k_is, by k_is, by k_is, by k_is⟩, by exact fun f hf => by simp only [List.mem_cons, List.not_mem_nil, or_false] at hf; (subst hf; k_is)⟩)
    (case n17 => exact ⟨⟨_, _, _, _, _, _, _, _, _, _, by k_is, by k_is, by k_is, by k_is, by k_is⟩, by exact fun f hf => by simp only [List.mem_cons, List.not_mem_nil, or_false] at hf; (subst hf; k_is)⟩)
    (case n18 => exact ⟨⟨_, _, _, _, _, _, _, _, _, _, by k_is, by k_is, by k_is, by k_is, by k_is⟩, by exact fun f hf => by simp only [List.mem_cons, List.not_mem_nil, or_false] at hf; (subst hf; k_is)⟩)
    (case n19 => exact ⟨⟨_, _, _, _, _, _, _, _, _, _, by k_is, by k_is, by k_is, by k_is, by k_is⟩, by exact fun f hf => by simp only [List.mem_cons, List.not_mem_nil, or_false] at hf; (rcases hf with rfl | rfl; (· k_is); (· k_is))⟩)
    (case n20 => exact ⟨⟨_, _, _, _, _, _, _, _, _, _, by k_is, by k_is, by k_is, by k_is, by k_is⟩, by exact fun f hf => by simp only [List.mem_cons, List.not_mem_nil, or_false] at hf; (rcases hf with rfl | rfl; (· k_is); (· k_is))⟩)
    (case n21 => exact ⟨⟨_, _, _, _, _, _, _, _, _, _, by k_is, by k_is, by k_is, by k_is, by k_is⟩, by exact fun f hf => by simp only [List.mem_cons, List.not_mem_nil, or_false] at hf; (rcases hf with rfl | rfl; (· k_is); (· k_is))⟩)
    (case n22 => exact ⟨⟨_, _, _, _, _, _, _, _, _, _, by k_is, by k_is, by k_is, by k_is, by k_is⟩, by exact fun f hf => by simp only [List.mem_cons, List.not_mem_nil, or_false] at hf; (rcases hf with rfl | rfl; (· k_is); (· k_is))⟩)
    (case n23 => exact ⟨⟨_, _, _, _, _, _, _, _, _, _, by k_is, by k_is, by k_is, by k_is, by k_is⟩, by exact fun f hf => by simp only [List.mem_cons, List.not_mem_nil, or_false] at hf; (subst hf; k_is)⟩)
    (case e24 => k_exc)
    (case e25 => k_exc)
    (case e26 => k_exc)
    (case e27 => k_exc)
    (case d_law_well => exact ⟨_, _, _, _, _, _, _, _, _, _, by k_is, by k_is, by k_is, by k_is⟩)
    (case d_law_pick => exact ⟨_, _, _, _, _, _, _, _, _, _, by k_is, by k_is, by k_is, by k_is⟩)
    (case d_law_of => exact ⟨_, _, _, _, _, _, _, _, _, _, by k_is, by k_is, by k_is, by k_is⟩)
    (case d_law_thing => exact ⟨_, _, _, _, _, _, _, _, _, _, by k_is, by k_is, by k_is, by k_is⟩)
    (case d_law_named => exact ⟨_, _, _, _, _, _, _, _, _, _, by k_is, by k_is, by k_is, by k_is⟩)
    (case d_law_placed => exact ⟨_, _, _, _, _, _, _, _, _, _, by k_is, by k_is, by k_is, by k_is⟩)
    (case d_law_under => exact ⟨_, _, _, _, _, _, _, _, _, _, by k_is, by k_is, by k_is, by k_is⟩)
    (case d_law_is_plain => exact ⟨_, _, _, _, _, _, _, _, _, _, by k_is, by k_is, by k_is, by k_is⟩)
    (case d_law_keeps => exact ⟨_, _, _, _, _, _, _, _, _, _, by k_is, by k_is, by k_is, by k_is⟩)
    (case d_law_right => exact ⟨_, _, _, _, _, _, _, _, _, _, by k_is, by k_is, by k_is, by k_is⟩)
    (case dlaw => exact ⟨_, _, _, _, _, _, _, _, _, _, by k_is, by k_is, by k_is, by k_is⟩)
    (case zint => k_is)
    (case zlen => k_is)
    (case zabs => k_is)
    (case zdivmod => k_is)
    (case zrange => k_is)
    (case zenumerate => k_is)
    (case zisinstance => k_is)
    (case zrepr => k_is)
    (case zValueError => k_is)
    (case zException => k_is)
    (case zLookupError => k_is)
    (case zArithmeticError => k_is)
    (case zTypeError => k_is)
    (case zRuntimeError => k_is)
    (case zAttributeError => k_is)
    (case zStopIteration => k_is)
