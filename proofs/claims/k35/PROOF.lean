import PyProof.Rows.All
import Wide.All
import OpenK.AllK
import Wide.FinOn
import HandS.ForMost
import HandS.Exc
import HandS.ExcInit
import PyProof.ReprRoads
import HandS.WideBits
import HandS.Wide
import HandS.Style
import HandS.IsInst
import HandS.Walk
import HandS.FStrTup
import HandS.Gcd
import HandS.Star
import HandS.WordsDict
import HandS.TupAny
import HandS.TupMul
import HandS.Zip
import KE.GoesMore
import KE.GoesEnum
import HandS.Conv
import KE.KMathGC
import HandS.Text
import PyProof.NeData
import HandS.SetFor
import PyProof.WalkInts
import HandS.TupSets
import HandS.RevTup
import PyProof.CallFns
import HandS.IterVal
import HandS.Defaults
import PySem.Challenge.RW_backwalks_k35_glasses_and_sighted_walks
set_option Elab.async false
set_option linter.all false
set_option maxRecDepth 100000
set_option maxHeartbeats 8000000
/-! Part 0. Defs that are run where no printing is under way (the guards are known to be none). -/
namespace Bw
open PySem PySem.Spec PyProof.Rows L2

/-- as a def's promise, for callers whose guards are none -/
structure FnG (P : Program) (w : World) (K : PySem.W.Frag) (mg : Str → Option Value) (base : Heap)
    (k : Nat) (f : Addr) (fd : FuncData) (ps : List Str) (sp : Sp) : Prop where
  len : ∀ vs H Q E, sp vs H Q E → vs.length = ps.length
  run : ∀ (A : Around) (outer : List Env) (s : Shared) (H : Hp) (args : Args) (us : List Value) (vs : List V)
    (Q : VK) (E : XK), A.guards = some [] → Room k A → Env0 P w K mg base A outer s H →
    BindsTo s fd args (ps.zip us) → Vals vs us → sp vs H Q E →
    codeAny (model P w) A (.call (.ref f) args) (CR CX0 outer P w H s Q E) s

theorem FnG.of {P : Program} {w : World} {K : PySem.W.Frag} {mg : Str → Option Value} {base : Heap}
    {k : Nat} {f : Addr} {fd : FuncData} {ps : List Str} {sp : Sp}
    (F : FnOk P w K mg base CX0 k f fd ps sp) : FnG P w K mg base k f fd ps sp :=
  ⟨F.len, fun A outer s H args us vs Q E _ hr he hb hv hs => F.run A outer s H args us vs Q E hr he hb hv hs⟩

section
variable {X : Cx} {k : Nat} {f : Addr} {fd : FuncData} {ps : List Str} {sp : Sp} {x : Str} {p pos : Pos}
  {e : Expr} {es : List Expr} {t : TA}

/-- what a guarded callee leaves -/
theorem runG {pins : List (Addr × Obj)} {σ : L2.St} {H : Hp} {s : Shared} {Q : VK} {us : List Value} {vs : List V}
    (F : FnG X.prog X.w X.K X.mg X.base k f fd ps sp) (hG : X.A.guards = some []) (hr : Room k X.A)
    (hb : Binds X.K fd ps []) (I : Inv X pins σ H s) (r : Vals vs us) (h : sp vs H Q E0) :
    wpAny (model X.prog X.w) X.A (call (.ref f) us) (EP X pins σ Q) X.xe s := by
  have hl : (us ++ []).length = ps.length := by
    rw [List.append_nil, ← r.length]
    exact F.len _ _ _ _ h
  have hb' := hb s us I.kIn hl
  rw [List.append_nil] at hb'
  refine wpAny_call (codeAny_mono
    (F.run X.A X.stack s H ⟨us, []⟩ us vs Q E0 hG hr I.env0 hb' r h) fun q s' hq => ?_)
  match q, hq with
  | .error _, hq => exact False.elim hq
  | .ok (.ret _), hq => exact I.after hq
  | .ok .next, hq => exact False.elim hq
  | .ok .brk, hq => exact False.elim hq
  | .ok .cont, hq => exact False.elim hq

theorem pe_callG (F : FnG X.prog X.w X.K X.mg X.base k f fd ps sp) (hG : X.A.guards = some []) (hr : Room k X.A)
    (hg : Gl X x) (hm : X.mg x = some (.ref f)) (hk : PySem.W.keepIn X.K (.ref f) = true)
    (hb : Binds X.K fd ps []) (ha : PA X (e :: es) t)
    (hdb : (x == ("__debug__" : Str)) = false := by decide)
    (he : starEach (e :: es) X.env = (false, eval e X.env) :: starEach es X.env := by rfl)
    (hpl : (backTo pos (starEach es X.env)).any (·.1) = false := by rfl) :
    PE X (.Call (.Name x p) (e :: es) [] pos) (tCall sp [] E0 t) := by
  refine ⟨fun pins s σ H Q I h => wpAny_Call_Name_kw (ld_glob I hg hm ?_ hdb)⟩
  refine PySem.W.callWith_K (h₀ := X.base) I.ok.mod.kin hk
    (thn (ha.run pos pins s σ H _ I h) fun us s1 ⟨vs, H1, I1, r, q⟩ => ⟨I1.kIn, ?_⟩) he hpl
  refine runG F hG hr hb I1 r ?_
  rw [← List.append_nil vs]
  exact q
end

/-- a def of the text, by its body, where the guards are none -/
theorem okG {P : Program} {w : World} {K : PySem.W.Frag} {mg : Str → Option Value} {base : Heap}
    {x qual : Str} {st : Stmt} {f : Addr} {fd : FuncData} {N ps : List Str} {k : Nat} {sp : Sp}
    (F : Fun K x qual st f fd) (S : FnScope N ps (defScope st))
    (len : ∀ vs H Q E, sp vs H Q E → vs.length = ps.length)
    (hbody : ∀ (cdv : Value) (A : Around) (outer : List Env) (s : Shared) (H : Hp) (vs : List V) (Q : VK) (E : XK),
      A.guards = some [] → Room k (A.deeper (envOfC qual (defScope st) s.heap.objs.size f cdv)) → sp vs H Q E →
      ∃ t, PSs (cxOf CX0 P w K mg base N qual (defScope st) f cdv A outer s H E).nox (defBody st) t ∧
        t { nx := fun _ H' => Q .non H', rt := Q } (start N vs) H) :
    FnG P w K mg base (k + 1) f fd ps sp := by
  obtain ⟨oc, od, kV, doc, pm, an, cdv, ct, osl, rfl, lk, hcd⟩ := F.ex
  refine ⟨len, ?_⟩
  intro A outer s H args us vs Q E hG hr e0 hb r hsp
  have hl := len _ _ _ _ hsp
  have keepB : ∀ b o, base.get? b = some o → s.heap.get? b = some o := fun b o e => (e0.bs b o e).1
  have KX : K.In s.heap := e0.mod.kin.keeps keepB
  have lim : s.heap.NoLimit := e0.mod.nolimit.keeps keepB
  refine codeAny_call_function hr.depth (KX _ _ lk) rfl S.co S.gen rfl (PySem.W.codeRec_of KX hcd)
    (hb _ _ _ _ ?_)
  refine wpAny_newFunctionEnv_cells S.kind (fun y hy => ?_) fun env he s1 x => ?_
  · obtain ⟨n, v⟩ := y
    cases S.par n (List.of_mem_zip hy).1 with
    | inl q => exact .inl q
    | inr q => exact .inr ⟨q, PySem.W.cellsFrom_some _ _ _ (.inl q)⟩
  subst he
  refine ⟨lim.keeps x.toInCall.keep, codeAny_func ?_⟩
  obtain ⟨t, ht, hq⟩ := hbody cdv A outer s H vs Q E hG (hr.deeper _) hsp
  have I := inv_start (CX := CX0) (P := P) (w := w) (K := K) (mg := mg) (base := base) (N := N) (qual := qual)
    (cd := cdv) (E := E) (f := f) S hr.hd e0 hl r x
  refine wpAny_mono (ht.nox.run [] s1 (start N vs) H _ I hq) (fun fl s' hs => ?_) fun e s' hs => hs
  match fl, hs with
  | .ret _, ⟨v, _, H', J, rv, q⟩ => exact ⟨v, H', J.os, J.bare, J.base, J.hok, rv, q⟩
  | .next, ⟨_, H', J, q⟩ => exact ⟨.non, H', J.os, J.bare, J.base, J.hok, rfl, q⟩
  | .brk, ⟨_, _, _, q⟩ => exact False.elim q
  | .cont, ⟨_, _, _, q⟩ => exact False.elim q

/-! ### the law's own call -/
section
variable {P : Program} {w : World} {K : PySem.W.Frag} {mg mb : Str → Option Value} {k : Nat} {fa a : Addr}
  {fd : FuncData} {x : Str} {sp : Sp} {s₁ : Shared} {vs : List Value} {ns : List Int}

/-- the heap that knows the script alone, or nothing -/
def scriptH (a : Addr) (o : Option HO) : Hp := fun b => if b = a then o else none

theorem scriptH_same {a : Addr} {o : Option HO} : scriptH a o a = o := if_pos rfl
theorem scriptH_ne {a b : Addr} {o : Option HO} (h : b ≠ a) : scriptH a o b = none := if_neg h

abbrev LawEnd (s₁ : Shared) (r : Result) (s' : Shared) : Prop :=
  r = .ok (.ret (.bool true)) ∧ OldK s₁.heap s'.heap ∧ s'.os = s₁.os ∧ AllBare s'.gens

theorem law_runG (KX : K.In s₁.heap) (hns : s₁.heap.Ns mainGlobals mg) (hb : s₁.heap.Ns builtinsNs mb)
    (hbb : ∀ x : Str, x ≠ "__name__" → mb x = bootBuiltins x) (hlim : s₁.heap.NoLimit) (hg : s₁.gens = #[])
    (ha : s₁.heap.get? a = some { cls := .type "list", data := .seq vs.toArray }) (hr : Room k callerA)
    (F : ∀ base : Heap, K.In base → base.Ns mainGlobals mg → FnG P w K mg base k fa fd [x] sp)
    (hbind : ∀ (s : Shared) (u : Value), BindsTo s fd ⟨[u], []⟩ [(x, u)])
    {H : Hp} (hO : Only H) (hok : HOk P w H s₁.heap) (hA : ∀ b, H b ≠ none → b = a)
    (hK : H a ≠ none → K.lookup a = none) (hsp : sp [.ref a] H (fun v _ => v = .bl true) E0) :
    codeAny (model P w) callerA (.call (.ref fa) ⟨[.ref a], []⟩) (LawEnd s₁) s₁ := by
  have only_a : ∀ {b : Addr}, b ≠ a → H b = none := fun {b} ne => by
    cases q : H b with
    | none => rfl
    | some u => exact absurd (hA b (by rw [q]; exact fun z => nomatch z)) ne
  have noDict : ∀ {b : Addr} {o : Obj} {es : Array DictEntry} {ep : Nat},
      s₁.heap.get? b = some o → o.data = .dict es ep → H b = none := fun {b o es ep} e d => by
    by_cases hb : b = a
    · rw [hb, ha] at e
      cases e
      have d' : Data.seq vs.toArray _ = Data.dict es ep := d
      cases d'
    · exact only_a hb
  have toNs : ∀ {b : Addr} {m : Str → Option Value}, s₁.heap.Ns b m → (hidT s₁.heap H).Ns b m :=
    fun {b m} ⟨o, es, ep, e, d, r⟩ => ⟨o, es, ep, hidT_get e (noDict e d), d, r⟩
  have hKb : K.In (hidT s₁.heap H) := fun b o e => by
    refine hidT_get (KX b o e) ?_
    by_cases hb : b = a
    · cases q : H b with
      | none => rfl
      | some u =>
        rw [hb] at e q
        rw [hK (by rw [q]; exact fun z => nomatch z)] at e
        cases e
    · exact only_a hb
  have hM : Mod K mg (hidT s₁.heap H) := by
    refine ⟨hKb, toNs hns, ⟨mb, toNs hb, hbb⟩, ?_⟩
    obtain ⟨mc, h1, h2⟩ := hlim
    exact ⟨mc, toNs h1, h2⟩
  have noA : ∀ b : Addr, b ∉ frs [] := fun b z => absurd (show b ∈ ([] : List Addr) from z) (by simp)
  have e0 : Env0 P w K mg (hidT s₁.heap H) callerA [] s₁ H :=
    ⟨rfl, hM, fun b o e => of_hidT e, Nat.le_of_eq (hidT_size _ _), trivial,
      fun b z => absurd z (noA b), hok, .of_eq hg⟩
  refine codeAny_mono ((F _ hKb (toNs hns)).run callerA [] s₁ H ⟨[.ref a], []⟩ [.ref a] [.ref a] _ _
    rfl hr e0 (hbind s₁ (.ref a)) (.cons rfl .nil) hsp) fun r s' h => ?_
  match r, h with
  | .error _, h => exact False.elim h
  | .ok .next, h => exact False.elim h
  | .ok .brk, h => exact False.elim h
  | .ok .cont, h => exact False.elim h
  | .ok (.ret u), ⟨v, H', os, bare, un, hok', rv, q⟩ =>
    have q' : v = .bl true := q
    subst q'
    obtain rfl : u = Value.bool true := rv
    refine ⟨rfl, OldK.of_keep fun b o e => ?_, os, bare⟩
    cases q : H b with
    | none => exact un.keep b o e q (noA b) (by simp)
    | some u =>
      rcases hO b with z | ⟨ob, xs, z⟩
      · rw [q] at z
        cases z
      · obtain ⟨e1, _⟩ := hok b _ z
        obtain ⟨e2, _⟩ := hok' b _ (un.frzs b ob _ z)
        rw [e] at e1
        cases e1
        exact e2

theorem law_callG (KX : K.In s₁.heap) (hns : s₁.heap.Ns mainGlobals mg) (hb : s₁.heap.Ns builtinsNs mb)
    (hbb : ∀ x : Str, x ≠ "__name__" → mb x = bootBuiltins x) (hlim : s₁.heap.NoLimit) (hg : s₁.gens = #[])
    (ha : s₁.heap.get? a = some { cls := .type "list", data := .seq vs.toArray }) (hi : IntsAre vs ns)
    (hl : ns.length ≤ sizeLine) (hr : Room k callerA)
    (F : ∀ base : Heap, K.In base → base.Ns mainGlobals mg → FnG P w K mg base k fa fd [x] sp)
    (hbind : ∀ (s : Shared) (u : Value), BindsTo s fd ⟨[u], []⟩ [(x, u)])
    (hsp : ∀ H : Hp, Only H → SqL K H a (ns.map V.int) → sp [.ref a] H (fun v _ => v = .bl true) E0) :
    codeAny (model P w) callerA (.call (.ref fa) ⟨[.ref a], []⟩) (LawEnd s₁) s₁ := by
  have rv := vals_ints hi
  have lenV := hi.length
  cases hk : K.lookup a with
  | some o =>
    have e := KX a o hk
    rw [ha] at e
    cases e
    refine law_runG (H := fun _ => none) KX hns hb hbb hlim hg ha hr F hbind (fun _ => .inl rfl)
      (fun b u z => nomatch (show (none : Option HO) = some u from z)) (fun b z => absurd rfl z) (fun z => absurd rfl z) (hsp _ (fun _ => .inl rfl) ?_)
    exact .inr ⟨_, vs.toArray, _, hk, rfl, rfl, rfl, by rw [List.size_toArray, lenV]; exact hl, by simpa using rv⟩
  | none =>
    have only : Only (scriptH a (some (.frz { cls := .type "list", data := .seq vs.toArray } (.lst (ns.map V.int))))) := fun b => by
      by_cases hb : b = a
      · exact .inr ⟨_, _, by rw [hb]; exact scriptH_same⟩
      · exact .inl (scriptH_ne hb)
    refine law_runG KX hns hb hbb hlim hg ha hr F hbind only (fun b u z => ?_) (fun b z => ?_) (fun _ => hk)
      (hsp _ only (.inl (.inr ⟨_, scriptH_same⟩)))
    · by_cases hb : b = a
      · rw [hb, scriptH_same] at z
        cases z
        rw [hb]
        exact ⟨ha, by rw [List.length_map]; exact hl, vs, _, rv, ha⟩
      · rw [scriptH_ne hb] at z
        cases z
    · by_cases hb : b = a
      · exact hb
      · exact absurd (scriptH_ne hb) z
end

/-- the end of a law's row, by a guarded promise -/
theorem walk_G {l : PySem.W.OpenLaw} {n k : Nat} {q : Program} {loose : List Str}
    {XP : (Str → Option Value) → Heap → Prop} {YP : World → Heap → Prop} {d : DefRec} {K : Params → PySem.W.Frag}
    {sp : PySem.W.Frag → Sp} {x : Str} (hn : l.most = some n) (hn2 : n ≤ sizeLine) (hdf : d.params.defaults = [])
    (hr : Room k callerA) (hY : ∀ (w : World) (h : Heap), YP w h → (K w.params).In h)
    (F : ∀ (w : World) (mg : Str → Option Value) (fa : Addr) (h : Heap), (K w.params).In h → h.Ns mainGlobals mg →
      mg d.name = some (.ref fa) → ∃ fd : FuncData, (∀ (s : Shared) (u : Value), BindsTo s fd ⟨[u], []⟩ [(x, u)]) ∧
        ∀ base : Heap, (K w.params).In base → base.Ns mainGlobals mg →
          FnG l.prog w (K w.params) mg base k fa fd [x] (sp (K w.params)))
    (hsp : ∀ (K : PySem.W.Frag) (H : Hp) (a : Addr) (ns : List Int), ns.length ≤ n → Only H →
      SqL K H a (ns.map V.int) → sp K [.ref a] H (fun v _ => v = .bl true) E0) :
    PySem.W.WalkO q loose XP YP l.row.toRowW d [] (fun f vs => PySem.call f vs) := by
  refine Att.attach_call hn hdf ?_
  intro w s₀ s₁ mg mb fa o pm cd doc a vs ns G Y ho hd hcd hmg hobj hints hlen hg
  have KX := hY w _ Y
  obtain ⟨fd, hb, hF⟩ := F w mg fa _ KX G.T.g hmg
  exact law_callG KX G.T.g G.T.b G.T.builtins G.T.nolimit hg hobj hints (Nat.le_trans hlen hn2) hr hF hb
    fun H hO hS => hsp _ H a ns hlen hO hS
end Bw
/-! Part 1. Data that stands in the abstract heap, dicts too, apart from what may change; its printing. -/
namespace Bw
open PySem PySem.Spec PyProof.Rows L2

/-- all that H knows but at W stands in H' -/
def Kp (W : Addr → Prop) (H H' : Hp) : Prop := ∀ a o, ¬ W a → H a = some o → H' a = some o
theorem Kp.refl {W : Addr → Prop} (H : Hp) : Kp W H H := fun _ _ _ e => e
theorem Kp.trans {W : Addr → Prop} {H H1 H2 : Hp} (a : Kp W H H1) (b : Kp W H1 H2) : Kp W H H2 :=
  fun x o n e => b x o n (a x o n e)
theorem Kp.new {W : Addr → Prop} {H : Hp} {p : Addr} {o : HO} (h : H p = none) : Kp W H (upd H p o) := fun a u _ e => by
  rw [upd_ne (ne_of_none e h)]
  exact e
theorem Kp.mut {W : Addr → Prop} {H : Hp} {p : Addr} {o : HO} (h : W p) : Kp W H (upd H p o) := fun a u n e => by
  rw [upd_ne (fun z : a = p => n (by rw [z]; exact h))]
  exact e
theorem Kp.same {W : Addr → Prop} {H H' : Hp} (h : Same H H') : Kp W H H' := fun a o _ e => h a o e
/-- what was not known before may change -/
theorem Kp.upd {W : Addr → Prop} {H H' : Hp} {p : Addr} {o : HO} (e : Kp W H H') (h : H p = none) : Kp W H (L2.upd H' p o) :=
  fun a u n q => by
    rw [upd_ne (ne_of_none q h)]
    exact e a u n q
theorem Kp.mono {W W' : Addr → Prop} {H H' : Hp} (e : Kp W H H') (h : ∀ a, W a → W' a) : Kp W' H H' :=
  fun a o n q => e a o (fun z => n (h a z)) q

def keyD : Key → PyData
  | .inl i => .int i
  | .inr x => .str x

mutual
inductive Dq (W : Addr → Prop) (H : Hp) : V → PyData → Prop
  | non : Dq W H .non .none
  | bl (b : Bool) : Dq W H (.bl b) (.bool b)
  | int (i : Int) : Dq W H (.int i) (.int i)
  | str (x : Str) : Dq W H (.str x) (.str x)
  | lst {a : Addr} {xs : List V} {ds : List PyData} : ¬ W a → H a = some (.lst xs) → DqAll W H xs ds → Dq W H (.ref a) (.list ds)
  | tup {a : Addr} {xs : List V} {ds : List PyData} : ¬ W a → H a = some (.tup xs) → DqAll W H xs ds → Dq W H (.ref a) (.tuple ds)
  | dct {a : Addr} {kvs : List (Key × V)} {ds : List PyData} : ¬ W a → H a = some (.dK kvs) → DqAll W H (kvs.map (·.2)) ds →
      Dq W H (.ref a) (.dict ((kvs.map fun kv => keyD kv.1).zip ds))
inductive DqAll (W : Addr → Prop) (H : Hp) : List V → List PyData → Prop
  | nil : DqAll W H [] []
  | cons {v : V} {vs : List V} {d : PyData} {ds : List PyData} : Dq W H v d → DqAll W H vs ds → DqAll W H (v :: vs) (d :: ds)
end

mutual
theorem Dq.keep {W : Addr → Prop} {H H' : Hp} (k : Kp W H H') : ∀ {v : V} {d : PyData}, Dq W H v d → Dq W H' v d
  | _, _, .non => .non
  | _, _, .bl b => .bl b
  | _, _, .int i => .int i
  | _, _, .str x => .str x
  | _, _, .lst n e h => .lst n (k _ _ n e) (DqAll.keep k h)
  | _, _, .tup n e h => .tup n (k _ _ n e) (DqAll.keep k h)
  | _, _, .dct n e h => .dct n (k _ _ n e) (DqAll.keep k h)
theorem DqAll.keep {W : Addr → Prop} {H H' : Hp} (k : Kp W H H') : ∀ {vs : List V} {ds : List PyData}, DqAll W H vs ds → DqAll W H' vs ds
  | _, _, .nil => .nil
  | _, _, .cons h t => .cons (Dq.keep k h) (DqAll.keep k t)
end
mutual
theorem Dq.weak {W W' : Addr → Prop} {H : Hp} (k : ∀ a, W a → W' a) : ∀ {v : V} {d : PyData}, Dq W' H v d → Dq W H v d
  | _, _, .non => .non
  | _, _, .bl b => .bl b
  | _, _, .int i => .int i
  | _, _, .str x => .str x
  | _, _, .lst n e h => .lst (fun z => n (k _ z)) e (DqAll.weak k h)
  | _, _, .tup n e h => .tup (fun z => n (k _ z)) e (DqAll.weak k h)
  | _, _, .dct n e h => .dct (fun z => n (k _ z)) e (DqAll.weak k h)
theorem DqAll.weak {W W' : Addr → Prop} {H : Hp} (k : ∀ a, W a → W' a) : ∀ {vs : List V} {ds : List PyData}, DqAll W' H vs ds → DqAll W H vs ds
  | _, _, .nil => .nil
  | _, _, .cons h t => .cons (Dq.weak k h) (DqAll.weak k t)
end
theorem DqAll.length {W : Addr → Prop} {H : Hp} : ∀ {vs : List V} {ds : List PyData}, DqAll W H vs ds → vs.length = ds.length
  | _, _, .nil => rfl
  | _, _, .cons _ t => congrArg (· + 1) t.length
theorem DqAll.rep {W : Addr → Prop} {H : Hp} {v : V} {d : PyData} (h : Dq W H v d) : ∀ n : Nat, DqAll W H (List.replicate n v) (List.replicate n d)
  | 0 => .nil
  | n + 1 => .cons h (DqAll.rep h n)
theorem DqAll.app {W : Addr → Prop} {H : Hp} {vs ws : List V} {ds es : List PyData} : DqAll W H vs ds → DqAll W H ws es → DqAll W H (vs ++ ws) (ds ++ es)
  | .nil, k => k
  | .cons h t, k => .cons h (t.app k)
theorem DqAll.bls {W : Addr → Prop} {H : Hp} : ∀ bs : List Bool, DqAll W H (bs.map V.bl) (bs.map PyData.bool)
  | [] => .nil
  | b :: r => .cons (.bl b) (DqAll.bls r)
theorem DqAll.at {W : Addr → Prop} {H : Hp} : ∀ {vs : List V} {ds : List PyData} {i : Nat} {v : V}, DqAll W H vs ds → vs[i]? = some v → ∃ d, ds[i]? = some d ∧ Dq W H v d
  | _, _, _, _, .nil, e => by simp at e
  | _, _, 0, _, .cons h _, e => by
    simp at e
    subst e
    exact ⟨_, rfl, h⟩
  | _, _, i + 1, _, .cons _ t, e => t.at (i := i) e

/-! ### what is read off the heap, dicts other than that of the modules -/
mutual
inductive RdS (h : Heap) : Value → PyData → Prop
  | none : RdS h .none .none
  | bool (b) : RdS h (.bool b) (.bool b)
  | int (i t) : RdS h (.int i t) (.int i)
  | str (x t) : RdS h (.str x t) (.str x)
  | list {a o vs n xs} : h.get? a = some o → o.cls = .type "list" → o.data = .seq vs n → RdSAll h vs.toList xs → RdS h (.ref a) (.list xs)
  | tuple {a o vs n xs} : h.get? a = some o → o.cls = .type "tuple" → o.data = .seq vs n → RdSAll h vs.toList xs → RdS h (.ref a) (.tuple xs)
  | dict {a o es n kvs} : h.get? a = some o → o.cls = .type "dict" → o.data = .dict es n → (a == sysModules) = false →
      RdSAll h (es.toList.map (·.key)) (kvs.map (·.1)) → RdSAll h (es.toList.map (·.val)) (kvs.map (·.2)) → RdS h (.ref a) (.dict kvs)
inductive RdSAll (h : Heap) : List Value → List PyData → Prop
  | nil : RdSAll h [] []
  | cons {v vs d ds} : RdS h v d → RdSAll h vs ds → RdSAll h (v :: vs) (d :: ds)
end
mutual
theorem RdS.reads {h : Heap} : ∀ {v : Value} {d : PyData}, RdS h v d → ∃ as, Reads h v d as
  | _, _, .none => ⟨_, .none⟩
  | _, _, .bool b => ⟨_, .bool b⟩
  | _, _, .int i t => ⟨_, .int i t⟩
  | _, _, .str x t => ⟨_, .str x t⟩
  | _, _, .list h1 h2 h3 h4 => let ⟨_, q⟩ := RdSAll.reads h4; ⟨_, .list h1 h2 h3 q⟩
  | _, _, .tuple h1 h2 h3 h4 => let ⟨_, q⟩ := RdSAll.reads h4; ⟨_, .tuple h1 h2 h3 q⟩
  | _, _, .dict h1 h2 h3 _ h4 h5 => let ⟨_, q⟩ := RdSAll.reads h4; let ⟨_, r⟩ := RdSAll.reads h5; ⟨_, .dict h1 h2 h3 q r⟩
theorem RdSAll.reads {h : Heap} : ∀ {vs : List Value} {ds : List PyData}, RdSAll h vs ds → ∃ as, ReadsAll h vs ds as
  | _, _, .nil => ⟨_, .nil⟩
  | _, _, .cons h1 h2 => let ⟨_, q⟩ := RdS.reads h1; let ⟨_, r⟩ := RdSAll.reads h2; ⟨_, .cons q r⟩
end

section
variable {prog : Program} {w : World} {h₀ : Heap}
mutual
theorem RdS.reprK : ∀ {v : Value} {d : PyData}, RdS h₀ v d → d.showable = true → d.shown.length ≤ sizeLine →
    ∃ bs, ReadAtMost h₀ d.depth bs ∧ ReprK prog w bs h₀ d.depth v d.shown
  | _, _, .none, _, _ => ⟨[], (fun _ h => nomatch h), by simp only [PyData.shown]; exact .of_is ReprIs.none _ _ _⟩
  | _, _, .bool b, _, _ => ⟨[], (fun _ h => nomatch h), by simp only [PyData.shown]; exact .of_is (ReprIs.bool b) _ _ _⟩
  | _, _, .int i t, hs, _ =>
    ⟨[], (fun _ h => nomatch h), by simp only [PyData.shown]; exact .of_is (ReprIs.int t (by simpa [PyData.showable] using hs)) _ _ _⟩
  | _, _, .str x t, _, hz =>
    ⟨[], (fun _ h => nomatch h), by simp only [PyData.shown]; exact .of_is (ReprIs.str x t (by simpa only [PyData.shown] using hz)) _ _ _⟩
  | _, _, .list (a := a) (vs := vs) (xs := xs) h1 h2 h3 h4, hs, hz => by
    have hz' : (listText (PyData.shownAll xs)).length ≤ sizeLine := by simpa only [PyData.shown] using hz
    obtain ⟨bs, hb, hk⟩ := RdSAll.reprK h4 (by simpa [PyData.showable] using hs) fun t ht => Nat.le_trans (listText_mem_le ht) hz'
    obtain ⟨_, r⟩ := RdS.reads (.list h1 h2 h3 h4)
    have deep : PyData.depthAll xs < (PyData.list xs).depth := by simp only [PyData.depth]; omega
    refine ⟨a :: bs, ReadAtMost.cons r (Nat.le_of_lt deep) hb, ?_⟩
    simp only [PyData.depth, PyData.shown]
    obtain ⟨l⟩ := vs
    cases l with
    | nil =>
      have h4' : RdSAll h₀ [] xs := h4
      cases h4'
      simp only [PyData.shownAll, listText_nil]
      exact ReprK.listEmpty h1 h2 h3
    | cons x l =>
      exact ReprK.list h1 h2 h3 (not_mem_of_deeper r deep hb) (by simpa using hk.length_eq) fun i y e => hk.item i y (by simpa using e)
  | _, _, .tuple (a := a) (xs := xs) h1 h2 h3 h4, hs, hz => by
    have hz' : (tupleText (PyData.shownAll xs)).length ≤ sizeLine := by simpa only [PyData.shown] using hz
    obtain ⟨bs, hb, hk⟩ := RdSAll.reprK h4 (by simpa [PyData.showable] using hs) fun t ht => Nat.le_trans (tupleText_mem_le ht) hz'
    obtain ⟨_, r⟩ := RdS.reads (.tuple h1 h2 h3 h4)
    have deep : PyData.depthAll xs < (PyData.tuple xs).depth := by simp only [PyData.depth]; omega
    refine ⟨a :: bs, ReadAtMost.cons r (Nat.le_of_lt deep) hb, ?_⟩
    simp only [PyData.depth, PyData.shown]
    exact ReprK.tuple h1 h2 h3 (not_mem_of_deeper r deep hb) hk
  | _, _, .dict (a := a) (es := es) (kvs := kvs) h1 h2 h3 hsys h4 h5, hs, hz => by
    have hz' : (dictText (PyData.shownKv kvs)).length ≤ sizeLine := by simpa only [PyData.shown] using hz
    obtain ⟨hs1, hs2⟩ := PyData.showableKv_split kvs (by simpa [PyData.showable] using hs)
    have le_key : ∀ t ∈ PyData.shownAll (kvs.map (·.1)), t.length ≤ sizeLine := fun t ht => by
      obtain ⟨p, hp, hl⟩ := PyData.shownKv_key_le kvs t ht
      exact Nat.le_trans hl (Nat.le_trans (dictText_mem_le hp) hz')
    have le_val : ∀ t ∈ PyData.shownAll (kvs.map (·.2)), t.length ≤ sizeLine := fun t ht => by
      obtain ⟨p, hp, hl⟩ := PyData.shownKv_val_le kvs t ht
      exact Nat.le_trans hl (Nat.le_trans (dictText_mem_le hp) hz')
    obtain ⟨b1, hb1, k1⟩ := RdSAll.reprK h4 hs1 le_key
    obtain ⟨b2, hb2, k2⟩ := RdSAll.reprK h5 hs2 le_val
    obtain ⟨_, r⟩ := RdS.reads (.dict h1 h2 h3 hsys h4 h5)
    have hb : ReadAtMost h₀ (PyData.depthKv kvs) (b1 ++ b2) :=
      (hb1.mono (PyData.depthAll_keys_le kvs)).append (hb2.mono (PyData.depthAll_vals_le kvs))
    have deep : PyData.depthKv kvs < (PyData.dict kvs).depth := by simp only [PyData.depth]; omega
    refine ⟨a :: (b1 ++ b2), ReadAtMost.cons r (Nat.le_of_lt deep) hb, ?_⟩
    simp only [PyData.depth, PyData.shown, PyData.shownKv_eq]
    refine ReprK.dict h1 h2 h3 hsys (not_mem_of_deeper r deep hb) (ReprEntriesK.of_two es.toList _ _ ?_ ?_)
    · exact k1.more_le (fun b hb => List.mem_append_left _ hb) (PyData.depthAll_keys_le kvs)
    · exact k2.more_le (fun b hb => List.mem_append_right _ hb) (PyData.depthAll_vals_le kvs)
theorem RdSAll.reprK : ∀ {vs : List Value} {ds : List PyData}, RdSAll h₀ vs ds → PyData.showableAll ds = true → (∀ t ∈ PyData.shownAll ds, t.length ≤ sizeLine) →
    ∃ bs, ReadAtMost h₀ (PyData.depthAll ds) bs ∧ ReprAllK prog w bs h₀ (PyData.depthAll ds) vs (PyData.shownAll ds)
  | _, _, .nil, _, _ => ⟨[], (fun _ h => nomatch h), by simp only [PyData.shownAll]; exact .nil⟩
  | _, _, .cons (d := d) (ds := ds) r rs, hs, hz => by
    have hs' : d.showable = true ∧ PyData.showableAll ds = true := by simpa [PyData.showableAll] using hs
    obtain ⟨b1, hb1, k1⟩ := RdS.reprK r hs'.1 (hz _ (by simp only [PyData.shownAll]; exact List.mem_cons_self ..))
    obtain ⟨b2, hb2, k2⟩ := RdSAll.reprK rs hs'.2 fun t ht => hz t (by simp only [PyData.shownAll]; exact List.mem_cons_of_mem _ ht)
    have l1 : d.depth ≤ PyData.depthAll (d :: ds) := by simp only [PyData.depthAll]; exact Nat.le_max_left _ _
    have l2 : PyData.depthAll ds ≤ PyData.depthAll (d :: ds) := by simp only [PyData.depthAll]; exact Nat.le_max_right _ _
    refine ⟨b1 ++ b2, (hb1.mono l1).append (hb2.mono l2), ?_⟩
    simp only [PyData.shownAll]
    exact .cons ((k1.more fun b hb => List.mem_append_left _ hb).level_le l1) (k2.more_le (fun b hb => List.mem_append_right _ hb) l2)
end

/-- repr of a list that is read so -/
theorem repr_list {a : Addr} {xs : List PyData} {A : Around} {E : Value → Shared → Prop} {s : Shared} {Q : Value → Shared → Prop}
    (r : RdS s.heap (.ref a) (.list xs)) (hs : PyData.showableAll xs = true) (hz : (PyData.list xs).shown.length ≤ sizeLine)
    (hg : A.guards = some []) (hu : A.units + ((PyData.list xs).depth + 1) < cLine)
    (hQ : ∀ h' u tk, (∀ b o, s.heap.get? b = some o → h'.get? b = some o) → Q (.str (PyData.list xs).shown u) { s with heap := h', toks := tk }) :
    wpAny (model prog w) A (call (.builtin "repr") [.ref a]) Q E s := by
  have deep : PyData.depthAll xs < (PyData.list xs).depth := by simp only [PyData.depth]; omega
  obtain ⟨_, rr⟩ := r.reads
  cases r with
  | list h1 h2 h3 h4 =>
    rename_i o vs n
    have hz' : (listText (PyData.shownAll xs)).length ≤ sizeLine := by simpa only [PyData.shown] using hz
    obtain ⟨bs, hb, hk⟩ := RdSAll.reprK (prog := prog) (w := w) h4 hs fun t ht => Nat.le_trans (listText_mem_le ht) hz'
    simp only [PyData.depth] at hu
    simp only [PyData.shown] at hQ
    refine call_repr_slot (by omega) ⟨o, h1, h2⟩ F.slot_list_repr.toG ?_
    obtain ⟨l⟩ := vs
    cases l with
    | nil =>
      have h4' : RdSAll s.heap [] xs := h4
      cases h4'
      simp only [PyData.shownAll, listText_nil] at hQ
      exact call_list_repr_empty ⟨o, h1, h2⟩ h1 h3 ⟨_, _, rfl, hQ s.heap _ _ fun _ _ e => e⟩
    | cons x l =>
      exact call_list_reprK h1 h2 h3 (not_mem_of_deeper rr deep hb) (by simpa using hk.length_eq) (fun i y e => hk.item i y (by simpa using e))
        hg (fun b _ => Clear.nil b) (by show A.units + 1 + (PyData.depthAll xs + 1) < cLine; omega) (fun _ _ e => e)
        (fun h' u tk hk => ⟨_, _, rfl, hQ h' u tk hk⟩) hz'
end

section
variable {X : Cx} {pins : List (Addr × Obj)} {σ : L2.St} {H : Hp} {s : Shared} {W : Addr → Prop}
theorem keyD_reads {h : Heap} {k : Key} {v : Value} (e : keyIs k v = true) : RdS h v (keyD k) := by
  rcases keyIs_shape e with ⟨i, t, rfl, rfl⟩ | ⟨x, t, rfl, rfl⟩
  · exact .int i t
  · exact .str x t
theorem keys_read {h : Heap} {P : Program} {w : World} : ∀ {es : List DictEntry} {kvs : List (Key × Value)}, PySem.Pairs (mixKind P w) es kvs →
    RdSAll h (es.map (·.key)) (kvs.map fun kv => keyD kv.1)
  | _, _, .nil => .nil
  | _, _, .cons h1 _ r => .cons (keyD_reads h1) (keys_read r)
theorem vals_read {P : Program} {w : World} : ∀ {es : List DictEntry} {kvs : List (Key × Value)}, PySem.Pairs (mixKind P w) es kvs →
    es.map (·.val) = kvs.map (·.2)
  | _, _, .nil => rfl
  | _, _, .cons _ h2 r => by rw [List.map_cons, List.map_cons, h2, vals_read r]
theorem KV.keys {α : Type} (f : Key → α) : ∀ {kvs : List (Key × V)} {vs : List (Key × Value)}, KV kvs vs → vs.map (fun kv => f kv.1) = kvs.map fun kv => f kv.1
  | _, _, .nil => rfl
  | _, _, .cons h r => by rw [List.map_cons, List.map_cons, h.1, KV.keys f r]
theorem KV.vals : ∀ {kvs : List (Key × V)} {vs : List (Key × Value)}, KV kvs vs → Vals (kvs.map (·.2)) (vs.map (·.2))
  | _, _, .nil => .nil
  | _, _, .cons h r => .cons h.2 (KV.vals r)
theorem zip_fst {α β : Type} : ∀ {l : List α} {m : List β}, l.length = m.length → (l.zip m).map (·.1) = l
  | [], _, _ => by simp
  | a :: l, [], h => by simp at h
  | a :: l, b :: m, h => by
    rw [List.zip_cons_cons, List.map_cons, zip_fst (Nat.succ.inj h)]
theorem zip_snd {α β : Type} : ∀ {l : List α} {m : List β}, l.length = m.length → (l.zip m).map (·.2) = m
  | [], [], _ => rfl
  | [], _ :: _, h => by simp at h
  | a :: l, [], h => by simp at h
  | a :: l, b :: m, h => by
    rw [List.zip_cons_cons, List.map_cons, zip_snd (Nat.succ.inj h)]

mutual
theorem Dq.rds (I : Inv X pins σ H s) : ∀ {v : V} {d : PyData} (u : Value), Dq W H v d → RelV v u → RdS s.heap u d
  | _, _, _, .non, r => by cases r; exact .none
  | _, _, _, .bl b, r => by cases r; exact .bool b
  | _, _, _, .int i, r => by obtain ⟨t, rfl⟩ := r; exact .int i t
  | _, _, _, .str x, r => by obtain ⟨t, rfl⟩ := r; exact .str x t
  | _, _, _, .lst (a := a) (xs := xs) _ e h, r => by
    cases r
    obtain ⟨_, its, n, rv, ho⟩ := (show ObjOk X.prog X.w H s.heap a (.lst xs) from I.hok a _ e)
    exact .list ho rfl rfl (DqAll.rds I its h rv)
  | _, _, _, .tup (a := a) (xs := xs) _ e h, r => by
    cases r
    obtain ⟨_, its, rv, o, ho, hc, n, hd⟩ := (show ObjOk X.prog X.w H s.heap a (.tup xs) from I.hok a _ e)
    exact .tuple ho hc hd (DqAll.rds I its h rv)
  | _, _, _, .dct (a := a) (kvs := kvs) (ds := ds) _ e h, r => by
    cases r
    obtain ⟨_, hsys, vs, kv, o, es, ep, ho, hx, hd, _, hp, _⟩ := dk_of I.hok e
    have hl : (kvs.map fun kv => keyD kv.1).length = ds.length := by
      have := h.length
      rw [List.length_map] at this ⊢
      exact this
    refine .dict ho hx.1 hd hsys ?_ ?_
    · rw [zip_fst hl, ← KV.keys keyD kv]
      exact keys_read hp
    · rw [zip_snd hl, vals_read hp]
      exact DqAll.rds I _ h (KV.vals kv)
theorem DqAll.rds (I : Inv X pins σ H s) : ∀ {vs : List V} {ds : List PyData} (us : List Value), DqAll W H vs ds → Vals vs us → RdSAll s.heap us ds
  | _, _, _, .nil, r => by cases r; exact .nil
  | _, _, _, .cons h t, r => by
    cases r with
    | cons r1 r2 => exact .cons (Dq.rds I _ h r1) (DqAll.rds I _ t r2)
end

/-- repr(xs), xs a list of data -/
def rRepr : List V → Hp → VK → Prop := fun vs H Q => ∃ (W : Addr → Prop) (v : V) (xs : List PyData), vs = [v] ∧ Dq W H v (.list xs) ∧ PyData.showableAll xs = true ∧
  (PyData.list xs).shown.length ≤ sizeLine ∧ (PyData.list xs).depth ≤ 60 ∧ Q (.str (PyData.list xs).shown) H
theorem call_repr {k : Nat} (hG : X.A.guards = some []) (hr : Room k X.A) : CallR X (.builtin "repr") rRepr := by
  intro pins s σ H xs us Q I r h
  obtain ⟨W, v, ds, rfl, hd, hs, hz, hdp, q⟩ := h
  obtain ⟨u, rfl, ru⟩ := Vals.one r
  have hu := hr.units
  cases hd with
  | lst n e h =>
    have rr := Dq.rds I u (.lst n e h) ru
    obtain rfl : u = _ := ru
    exact repr_list rr hs hz hG (by omega) fun h' t tk hk => ⟨.str _, H, I.kept (t' := tk) hk, ⟨t, rfl⟩, q⟩
end
end Bw
/-! Part 5. Small words: sizes, heaps, displays as data, what is printed, fractions as rational numbers. -/
namespace Bw
open PySem PySem.Spec PyProof.Rows L2
theorem sz63 {n : Nat} (h : n ≤ 1000) : n ≤ sizeLine := Nat.le_trans h (by decide)
theorem sz63' {n : Nat} (h : n ≤ 1000) : n < sizeLine := Nat.lt_of_le_of_lt h (by decide)

/-- a def as it stands behind the top, with its promise -/
structure Df (P : Program) (w : World) (K : PySem.W.Frag) (mg : Str → Option Value) (base : Heap) (k : Nat) (x : Str) (ps : List Str) (sp : Sp) where
  f : Addr
  fd : FuncData
  g : mg x = some (.ref f)
  kp : PySem.W.keepIn K (.ref f) = true
  b : Binds K fd ps []
  G : FnOk P w K mg base CX0 k f fd ps sp
/-- a def that is run where no printing is under way -/
structure Dg (P : Program) (w : World) (K : PySem.W.Frag) (mg : Str → Option Value) (base : Heap) (k : Nat) (x : Str) (ps : List Str) (sp : Sp) where
  f : Addr
  fd : FuncData
  g : mg x = some (.ref f)
  kp : PySem.W.keepIn K (.ref f) = true
  b : Binds K fd ps []
  G : FnG P w K mg base k f fd ps sp
theorem map_at {ns : List Int} {i : Nat} {x : V} (h : (ns.map V.int)[i]? = some x) : ∃ z, ns[i]? = some z ∧ x = .int z := by
  rw [List.getElem?_map] at h
  cases e : ns[i]? with
  | none =>
    rw [e] at h
    cases h
  | some z =>
    rw [e] at h
    exact ⟨z, rfl, (Option.some.inj h).symm⟩
theorem same_new {H : Hp} {p : Addr} {o : HO} (h : H p = none) : Same H (upd H p o) := fun b x e => by
  rw [upd_ne (ne_of_none e h)]
  exact e
theorem same_mut {H H' : Hp} {p : Addr} {o : HO} (s : Same H H') (h : H p = none) : Same H (upd H' p o) := fun b x e => by
  rw [upd_ne (ne_of_none e h)]
  exact s b x e

/-! ### what a display gives, as data: all of it new -/
abbrev Old (H : Hp) : Addr → Prop := fun a => H a ≠ none
theorem Old.same {H H' : Hp} (s : Same H H') : ∀ a, Old H a → Old H' a := fun a h z => by
  cases e : H a with
  | none => exact h e
  | some o =>
    rw [s a o e] at z
    cases z
def EvD (te : TE) (σ : L2.St) (d : PyData) : Prop := ∀ (H : Hp) (Q : VK), (∀ v H', Same H H' → Dq (Old H) H' v d → Q v H') → te σ H Q
def EvDs (ta : TA) (σ : L2.St) (ds : List PyData) : Prop := ∀ (H : Hp) (Q : List V → Hp → Prop), (∀ vs H', Same H H' → DqAll (Old H) H' vs ds → Q vs H') → ta σ H Q
section
variable {σ : L2.St}
theorem evd_non : EvD (tC .non) σ .none := fun H Q q => q _ H (.refl H) .non
theorem evd_bl {b : Bool} : EvD (tC (.bl b)) σ (.bool b) := fun H Q q => q _ H (.refl H) (.bl b)
theorem evd_int {i : Int} : EvD (tC (.int i)) σ (.int i) := fun H Q q => q _ H (.refl H) (.int i)
theorem evd_str {x : Str} : EvD (tC (.str x)) σ (.str x) := fun H Q q => q _ H (.refl H) (.str x)
theorem evd_neg {i : Int} : EvD (tUn (rU fun i => .int (-i)) (tC (.int i))) σ (.int (-i)) := fun H Q q => ⟨i, rfl, q _ H (.refl H) (.int (-i))⟩
theorem evd_var {j : Nat} {i : Int} (h : σ[j]? = some (some (.int i))) : EvD (tVar j) σ (.int i) := fun H Q q => ⟨_, h, q _ H (.refl H) (.int i)⟩
theorem evd_minus {j : Nat} {i : Int} (h : σ[j]? = some (some (.int i))) : EvD (tOp (rI0 fun i j => .int (i - j)) (tC (.int 0)) (tVar j)) σ (.int (0 - i)) :=
  fun H Q q => ⟨_, h, 0, i, rfl, rfl, q _ H (.refl H) (.int (0 - i))⟩
theorem evds_nil : EvDs tNil σ [] := fun H Q q => q _ H (.refl H) .nil
theorem evds_cons {te : TE} {ta : TA} {d : PyData} {ds : List PyData} (h : EvD te σ d) (t : EvDs ta σ ds) : EvDs (tCons te ta) σ (d :: ds) := fun H Q q =>
  h H _ fun v H1 s1 e1 => t H1 _ fun vs H2 s2 e2 => q _ H2 (s1.trans s2) (.cons (e1.keep (Kp.same s2)) (e2.weak (Old.same s1)))
theorem new_old {H H1 : Hp} {p : Addr} (s : Same H H1) (hp : H1 p = none) : ¬ Old H p := fun z => z (s.free hp)
theorem evd_tup {ta : TA} {ds : List PyData} (h : EvDs ta σ ds) (hl : ds.length ≤ 1000) : EvD (tTup ta) σ (.tuple ds) := fun H Q q =>
  h H _ fun vs H1 s1 e1 => ⟨sz63 (by rw [e1.length]; exact hl), fun p hp =>
    q _ _ (s1.trans (same_new hp)) (.tup (new_old s1 hp) upd_same (e1.keep (Kp.new hp)))⟩
theorem evd_lst {ta : TA} {ds : List PyData} (h : EvDs ta σ ds) (hl : ds.length ≤ 1000) : EvD (tLst ta) σ (.list ds) := fun H Q q =>
  h H _ fun vs H1 s1 e1 => ⟨sz63 (by rw [e1.length]; exact hl), fun p hp =>
    q _ _ (s1.trans (same_new hp)) (.lst (new_old s1 hp) upd_same (e1.keep (Kp.new hp)))⟩
theorem evd_dnew : EvD tDNewK σ (.dict []) := fun H Q q => fun p hp => q _ _ (same_new hp) (.dct (kvs := []) (fun z => z hp) upd_same .nil)
/-- {k: e}, one written key -/
theorem evd_dict1 {k : Key} {te : TE} {d : PyData} (h : EvD te σ d) : EvD (tDisp [(tC (kV k), te)]) σ (.dict [(keyD k, d)]) := fun H Q q => fun p hp => by
  refine h _ _ fun v H1 s1 e1 => ?_
  have ep : H1 p = some (.dK []) := s1 _ _ upd_same
  refine ⟨ep, [(k, v)], rfl, (by show 1 ≤ 15; decide), ?_⟩
  have s2 : Same H (upd H1 p (.dK [(k, v)])) := same_mut ((same_new hp).trans s1) hp
  refine q _ _ s2 (.dct (kvs := [(k, v)]) (fun z => z hp) upd_same (.cons ?_ .nil))
  have e2 : Dq (Old (upd H p (.dK []))) (upd H1 p (.dK [(k, v)])) v d := e1.keep (Kp.mut (by
    show upd H p (.dK []) p ≠ none
    rw [upd_same]
    exact fun z => nomatch z))
  exact e2.weak (Old.same (same_new hp))
end

/-! ### lengths of what is printed -/
theorem from_len : ∀ (ts : List Str) (k : Nat) (acc : Str), (textFrom k acc ts).length ≤ acc.length + piled ts
  | [], k, acc => by
    show acc.length ≤ _
    rw [piled_nil]
    omega
  | t :: ts, k, acc => by
    show (textFrom (k + 1) (acc ++ (if k > 0 then ", " else "" : String) ++ t) ts).length ≤ _
    have h := from_len ts (k + 1) (acc ++ (if k > 0 then ", " else "" : String) ++ t)
    have e : (((if k > 0 then ", " else "" : String) : Str)).length ≤ 2 := by split <;> decide +kernel
    rw [strLen_append, strLen_append] at h
    rw [piled_cons]
    omega
theorem list_len (ts : List Str) : (listText ts).length ≤ 2 + piled ts := by
  have h := from_len ts 0 "["
  have e : (("[" : String) : Str).length = 1 := by decide +kernel
  have e2 : (("]" : String) : Str).length = 1 := by decide +kernel
  unfold listText
  rw [strLen_append]
  omega
theorem piled_le {n : Nat} : ∀ {ts : List Str}, (∀ t ∈ ts, t.length ≤ n) → piled ts ≤ (n + 2) * ts.length
  | [], _ => by rw [piled_nil]; omega
  | t :: ts, h => by
    have h1 := h t List.mem_cons_self
    have h2 := piled_le (n := n) (ts := ts) fun x hx => h x (List.mem_cons_of_mem _ hx)
    rw [piled_cons, List.length_cons, Nat.mul_succ]
    omega
theorem shownAll_map : ∀ ds : List PyData, PyData.shownAll ds = ds.map PyData.shown
  | [] => by simp [PyData.shownAll]
  | d :: ds => by simp [PyData.shownAll, shownAll_map ds]
theorem shown_list_le {n m : Nat} {ds : List PyData} (h : ∀ d ∈ ds, d.shown.length ≤ n) (hl : ds.length ≤ m) : (PyData.list ds).shown.length ≤ 2 + (n + 2) * m := by
  simp only [PyData.shown]
  have h1 := list_len (PyData.shownAll ds)
  have h2 : piled (PyData.shownAll ds) ≤ (n + 2) * (PyData.shownAll ds).length := piled_le fun t ht => by
    rw [shownAll_map] at ht
    obtain ⟨d, hd, rfl⟩ := List.mem_map.mp ht
    exact h d hd
  have h3 : (PyData.shownAll ds).length = ds.length := by rw [shownAll_map, List.length_map]
  rw [h3] at h2
  have h4 : (n + 2) * ds.length ≤ (n + 2) * m := Nat.mul_le_mul_left _ hl
  omega
theorem showAll_of : ∀ {ds : List PyData}, (∀ d ∈ ds, d.showable = true) → PyData.showableAll ds = true
  | [], _ => by simp [PyData.showableAll]
  | d :: ds, h => by
    simp only [PyData.showableAll, Bool.and_eq_true]
    exact ⟨h d List.mem_cons_self, showAll_of fun x hx => h x (List.mem_cons_of_mem _ hx)⟩
theorem depthAll_le {n : Nat} : ∀ {ds : List PyData}, (∀ d ∈ ds, d.depth ≤ n) → PyData.depthAll ds ≤ n
  | [], _ => by simp [PyData.depthAll]
  | d :: ds, h => by
    simp only [PyData.depthAll]
    have h1 := h d List.mem_cons_self
    have h2 := depthAll_le (n := n) (ds := ds) fun x hx => h x (List.mem_cons_of_mem _ hx)
    omega
theorem repr_parts {ds : List PyData} {n : Nat} (h : ∀ d ∈ ds, d.showable = true ∧ d.shown.length ≤ n ∧ d.depth ≤ 9) (hn : n ≤ 100000) (hl : ds.length ≤ 100) :
    PyData.showableAll ds = true ∧ (PyData.list ds).shown.length ≤ sizeLine ∧ (PyData.list ds).depth ≤ 60 := by
  refine ⟨showAll_of fun d m => (h d m).1, ?_, ?_⟩
  · have h1 := shown_list_le (m := 100) (fun d m => (h d m).2.1) hl
    rw [sizeLine_eq]
    have h2 : (n + 2) * 100 ≤ 100002 * 100 := Nat.mul_le_mul_right _ (by omega)
    omega
  · simp only [PyData.depth]
    have h1 := depthAll_le (n := 9) fun d m => (h d m).2.2
    omega
theorem bools_ok : ∀ bs : List Bool, ∀ d ∈ bs.map PyData.bool, d.showable = true ∧ d.shown.length ≤ 5 ∧ d.depth ≤ 9 := fun bs d hd => by
  obtain ⟨b, _, rfl⟩ := List.mem_map.mp hd
  cases b
  · exact ⟨by decide +kernel, by decide +kernel, by decide +kernel⟩
  · exact ⟨by decide +kernel, by decide +kernel, by decide +kernel⟩
theorem rep_ok {d : PyData} {n : Nat} (h : d.showable = true ∧ d.shown.length ≤ n ∧ d.depth ≤ 9) (k : Nat) : ∀ x ∈ List.replicate k d, x.showable = true ∧ x.shown.length ≤ n ∧ x.depth ≤ 9 := fun x hx => by
  rw [List.eq_of_mem_replicate hx]
  exact h

/-! ### a comprehension that gives the same thing at each turn -/
mutual
theorem dq_live {W : Addr → Prop} {H : Hp} {D : Addr} (n : H D = none) : ∀ {v : V} {d : PyData}, Dq W H v d → Dq (fun a => W a ∨ a = D) H v d
  | _, _, .non => .non
  | _, _, .bl b => .bl b
  | _, _, .int i => .int i
  | _, _, .str x => .str x
  | _, _, .lst w e h => .lst (fun z => z.elim w fun q => by rw [q, n] at e; cases e) e (dqAll_live n h)
  | _, _, .tup w e h => .tup (fun z => z.elim w fun q => by rw [q, n] at e; cases e) e (dqAll_live n h)
  | _, _, .dct w e h => .dct (fun z => z.elim w fun q => by rw [q, n] at e; cases e) e (dqAll_live n h)
theorem dqAll_live {W : Addr → Prop} {H : Hp} {D : Addr} (n : H D = none) : ∀ {vs : List V} {ds : List PyData}, DqAll W H vs ds → DqAll (fun a => W a ∨ a = D) H vs ds
  | _, _, .nil => .nil
  | _, _, .cons h t => .cons (dq_live n h) (dqAll_live n t)
end
theorem rep_snoc {α : Type} (d : α) : ∀ n : Nat, List.replicate (n + 1) d = List.replicate n d ++ [d] := fun n => List.replicate_succ'
theorem const_lc {W : Addr → Prop} {H1 : Hp} {D c : Addr} {bs : List Addr} {d : PyData} {te : TE} {σ : L2.St} {vs : List Nat} {K : PySem.W.Frag} {Qd : Hp → Prop} {j : Nat}
    (nD : H1 D = none) (hc : H1 c = some (.lst (bs.map V.ref))) (hb : bs.length ≤ 100)
    (hw : ∀ x, wipe ((wipe σ vs).set j (some x)) vs = wipe σ vs)
    (turn : ∀ b ∈ bs, ∀ (H : Hp) (Q : VK), Same H1 H → H D ≠ none → (∀ y H', Same H H' → Dq (fun a => W a ∨ a = D) H' y d → Q y H') → te ((wipe σ vs).set j (some (.ref b))) H Q)
    (done : ∀ H acc, Same H1 H → H D = some (.lst acc) → DqAll (fun a => W a ∨ a = D) H acc (List.replicate bs.length d) → Qd H) :
    ∃ W : Nat → Nat → Hp → Prop, (∃ m, W 0 m (upd H1 D (.lst []))) ∧ ∀ i m H, W i m H →
      ((Itl K c).stop i H ∧ Qd H) ∨ ((Itl K c).go i H ∧ ∃ Nx : Hp → Prop, (∀ H', Nx H' → ∃ m', m' < m ∧ W (i + 1) m' H') ∧ ∀ x H', (Itl K c).yld i H x H' → gName j x (wipe σ vs) H' fun σ2 H2 => wipe σ2 vs = wipe σ vs ∧ tYes σ2 H2 fun b H3 =>
        if b = true then te σ2 H3 fun y H4 => ∃ acc, H4 D = some (.lst acc) ∧ acc.length < sizeLine ∧ Nx (upd H4 D (.lst (acc ++ [y]))) else Nx H3) := by
  have s0 : Same H1 (upd H1 D (.lst [])) := same_new nD
  refine lc_list (K := K) (a := c) (xs := bs.map V.ref) (fun i H => ∃ acc, Same H1 H ∧ H D = some (.lst acc) ∧ DqAll (fun a => W a ∨ a = D) H acc (List.replicate i d)) ⟨[], s0, upd_same, .nil⟩
    (fun i H _ ⟨_, s, _⟩ => .inl (.inl (s _ _ hc))) ?_ (fun H ⟨acc, s, e, q⟩ => done H acc s e (by rw [List.length_map] at q; exact q))
  rintro i x H hi ⟨acc, s, e, q⟩
  rw [List.getElem?_map] at hi
  have hil : i < bs.length := by
    cases z : bs[i]? with
    | none =>
      rw [z] at hi
      cases hi
    | some b => exact (List.getElem?_eq_some_iff.mp z).1
  obtain ⟨b, hbm, rfl⟩ : ∃ b ∈ bs, x = .ref b := by
    rw [List.getElem?_eq_getElem hil] at hi
    exact ⟨bs[i], List.getElem_mem _, (Option.some.inj hi).symm⟩
  refine ⟨hw _, ?_⟩
  unfold tYes
  dsimp only
  rw [if_pos rfl]
  refine turn b hbm H _ s (by rw [e]; exact fun z => nomatch z) fun y H' s' dy => ⟨acc, s' _ _ e, sz63' (by have := q.length; rw [List.length_replicate] at this; omega), acc ++ [y], ?_, upd_same, ?_⟩
  · exact same_mut (s.trans s') nD
  · have kD : Kp (fun a => W a ∨ a = D) H' (upd H' D (.lst (acc ++ [y]))) := Kp.mut (.inr rfl)
    rw [rep_snoc]
    exact ((q.keep (Kp.same s')).keep kD).app (.cons (dy.keep kD) .nil)

end Bw
/-! Part 6. Fractions in lowest terms as rational numbers, their sizes. Plain mathematics. -/
namespace Bq
theorem q_num {a b : Int} (hb : 0 < b) : (Rat.divInt a b).num = a / ((Nat.gcd a.natAbs b.natAbs : Nat) : Int) := by
  rw [Rat.num_divInt, Int.sign_eq_one_of_pos hb, Int.one_mul]
  have : b.gcd a = Nat.gcd a.natAbs b.natAbs := Nat.gcd_comm _ _
  rw [this]
theorem q_den {a b : Int} (hb : 0 < b) : ((Rat.divInt a b).den : Int) = b / ((Nat.gcd a.natAbs b.natAbs : Nat) : Int) := by
  rw [Rat.den_divInt, if_neg (by omega)]
  have : b.gcd a = Nat.gcd a.natAbs b.natAbs := Nat.gcd_comm _ _
  rw [this]
  have h : (b.natAbs : Int) = b := by omega
  rw [Int.natCast_ediv, h]
theorem den_pos (q : Rat) : (0 : Int) < q.den := by
  have := q.den_nz
  omega
theorem num_over (q : Rat) : Rat.divInt q.num q.den = q := Rat.num_divInt_den q
theorem q_add (p q : Rat) : Rat.divInt (p.num * q.den + q.num * p.den) (p.den * q.den) = p + q := by
  have h1 := den_pos p
  have h2 := den_pos q
  have := Rat.divInt_add_divInt p.num q.num (d₁ := p.den) (d₂ := q.den) (by omega) (by omega)
  rw [num_over, num_over] at this
  exact this.symm
theorem q_sub (p q : Rat) : Rat.divInt (p.num * q.den - q.num * p.den) (p.den * q.den) = p - q := by
  have h1 := den_pos p
  have h2 := den_pos q
  have := Rat.divInt_sub_divInt p.num q.num (d₁ := p.den) (d₂ := q.den) (by omega) (by omega)
  rw [num_over, num_over] at this
  exact this.symm
theorem q_mul (p q : Rat) : Rat.divInt (p.num * q.num) (p.den * q.den) = p * q := by
  have := Rat.divInt_mul_divInt p.num q.num (d₁ := p.den) (d₂ := q.den)
  rw [num_over, num_over] at this
  exact this.symm
theorem q_div (p q : Rat) : Rat.divInt (p.num * q.den) (p.den * q.num) = p / q := by
  have := Rat.divInt_mul_divInt p.num q.den (d₁ := p.den) (d₂ := q.num)
  rw [num_over, ← Rat.inv_divInt, num_over] at this
  rw [Rat.div_def]
  exact this.symm
theorem num_pos {q : Rat} : 0 < q.num ↔ 0 < q := by
  have h := Rat.num_nonneg (q := q)
  have e := Rat.num_eq_zero (q := q)
  constructor
  · intro k
    have a := h.mp (by omega)
    have b : q ≠ 0 := fun g => by have := e.mpr g; omega
    grind
  · intro k
    have a := h.mpr (by grind)
    have b : q.num ≠ 0 := fun g => by have := e.mp g; grind
    omega
theorem num_nonneg {q : Rat} : 0 ≤ q.num ↔ 0 ≤ q := Rat.num_nonneg

/-! ### sizes -/
/-- both parts below 2 ^ n -/
def Sz (n : Nat) (q : Rat) : Prop := q.num.natAbs < 2 ^ n ∧ q.den < 2 ^ n
theorem Sz.mono {m n : Nat} {q : Rat} (h : Sz m q) (l : m ≤ n) : Sz n q :=
  ⟨Nat.lt_of_lt_of_le h.1 (Nat.pow_le_pow_right (by decide) l), Nat.lt_of_lt_of_le h.2 (Nat.pow_le_pow_right (by decide) l)⟩
theorem sz_div {a b : Int} {n : Nat} (hb : 0 < b) (ha : a.natAbs < 2 ^ n) (hb2 : b.natAbs < 2 ^ n) : Sz n (Rat.divInt a b) := by
  constructor
  · rw [q_num hb]
    refine Nat.lt_of_le_of_lt ?_ ha
    rw [Int.natAbs_ediv_of_dvd]
    · exact Nat.div_le_self _ _
    · exact Int.dvd_natAbs.mp (Int.natCast_dvd_natCast.mpr (Nat.gcd_dvd_left _ _))
  · have h : (Rat.divInt a b).den = b.natAbs / Nat.gcd a.natAbs b.natAbs := by
      rw [Rat.den_divInt, if_neg (by omega)]
      have : b.gcd a = Nat.gcd a.natAbs b.natAbs := Nat.gcd_comm _ _
      rw [this]
    rw [h]
    exact Nat.lt_of_le_of_lt (Nat.div_le_self _ _) hb2
theorem mul_lt {x y : Int} {m n : Nat} (h : x.natAbs < 2 ^ m) (k : y.natAbs < 2 ^ n) : (x * y).natAbs < 2 ^ (m + n) := by
  rw [Int.natAbs_mul, Nat.pow_add]
  exact Nat.mul_lt_mul'' h k
theorem add_lt {x y : Int} {n : Nat} (h : x.natAbs < 2 ^ n) (k : y.natAbs < 2 ^ n) : (x + y).natAbs < 2 ^ (n + 1) := by
  have := Int.natAbs_add_le x y
  rw [Nat.pow_succ]
  omega
theorem sub_lt {x y : Int} {n : Nat} (h : x.natAbs < 2 ^ n) (k : y.natAbs < 2 ^ n) : (x - y).natAbs < 2 ^ (n + 1) := by
  have := Int.natAbs_sub_le x y
  rw [Nat.pow_succ]
  omega
theorem den_abs {n : Nat} {q : Rat} (h : Sz n q) : ((q.den : Int)).natAbs < 2 ^ n := h.2
theorem up (m : Nat) {n k : Nat} (h : k < 2 ^ m) (l : m ≤ n) : k < 2 ^ n := Nat.lt_of_lt_of_le h (Nat.pow_le_pow_right (by decide) l)
theorem add_num {m n : Nat} {p q : Rat} (hp : Sz m p) (hq : Sz n q) : (p.num * q.den + q.num * p.den).natAbs < 2 ^ (m + n + 1) := by
  refine add_lt (mul_lt hp.1 (den_abs hq)) ?_
  rw [Nat.add_comm m n]
  exact mul_lt hq.1 (den_abs hp)
theorem sub_num {m n : Nat} {p q : Rat} (hp : Sz m p) (hq : Sz n q) : (p.num * q.den - q.num * p.den).natAbs < 2 ^ (m + n + 1) := by
  refine sub_lt (mul_lt hp.1 (den_abs hq)) ?_
  rw [Nat.add_comm m n]
  exact mul_lt hq.1 (den_abs hp)
theorem dens {m n : Nat} {p q : Rat} (hp : Sz m p) (hq : Sz n q) : ((p.den : Int) * q.den).natAbs < 2 ^ (m + n) := mul_lt (den_abs hp) (den_abs hq)
theorem dens_pos (p q : Rat) : (0 : Int) < (p.den : Int) * q.den := Int.mul_pos (den_pos p) (den_pos q)
theorem Sz.add {m n : Nat} {p q : Rat} (hp : Sz m p) (hq : Sz n q) : Sz (m + n + 1) (p + q) := by
  rw [← q_add]
  exact sz_div (dens_pos p q) (add_num hp hq) (up _ (dens hp hq) (by omega))
theorem Sz.sub {m n : Nat} {p q : Rat} (hp : Sz m p) (hq : Sz n q) : Sz (m + n + 1) (p - q) := by
  rw [← q_sub]
  exact sz_div (dens_pos p q) (sub_num hp hq) (up _ (dens hp hq) (by omega))
theorem Sz.mul {m n : Nat} {p q : Rat} (hp : Sz m p) (hq : Sz n q) : Sz (m + n) (p * q) := by
  rw [← q_mul]
  exact sz_div (dens_pos p q) (mul_lt hp.1 hq.1) (dens hp hq)
theorem Sz.div {m n : Nat} {p q : Rat} (hp : Sz m p) (hq : Sz n q) (h : 0 < q.num) : Sz (m + n) (p / q) := by
  rw [← q_div]
  exact sz_div (Int.mul_pos (den_pos p) h) (mul_lt hp.1 (den_abs hq)) (mul_lt (den_abs hp) hq.1)

/-! ### a pair of numbers in lowest terms -/
theorem low_iff {a b : Int} (hb : 0 < b) : Nat.gcd a.natAbs b.natAbs = 1 ↔ ∃ q : Rat, a = q.num ∧ b = q.den := by
  constructor
  · intro h
    refine ⟨⟨a, b.natAbs, by omega, h⟩, rfl, ?_⟩
    show b = ((b.natAbs : Nat) : Int)
    omega
  · rintro ⟨q, rfl, rfl⟩
    exact q.reduced
/-- the sum of a row -/
def sumQ : List Rat → Rat
  | [] => 0
  | q :: r => q + sumQ r
/-- .. from the left -/
theorem sum_left : ∀ (l : List Rat) (a : Rat), l.foldl (· + ·) a = a + sumQ l
  | [], a => by simp [sumQ, Rat.add_zero]
  | q :: r, a => by
    rw [List.foldl_cons, sum_left r, sumQ, Rat.add_assoc]
theorem sum_snoc (l : List Rat) (q : Rat) : sumQ (l ++ [q]) = sumQ l + q := by
  induction l with
  | nil => simp [sumQ, Rat.add_zero, Rat.zero_add]
  | cons a r ih => rw [List.cons_append, sumQ, ih, sumQ, Rat.add_assoc]
theorem zero_q : (0 : Rat).num = 0 ∧ (0 : Rat).den = 1 := ⟨rfl, rfl⟩
theorem one_q : (1 : Rat).num = 1 ∧ (1 : Rat).den = 1 := ⟨rfl, rfl⟩
theorem Sz.zero : Sz 1 0 := ⟨by decide, by decide⟩
end Bq
/-! zip of a row of lists, the tuple kept by a name. -/
namespace Bz
open PySem PySem.Spec PyProof.Rows L2
open PySem.Sem (wp)
section
variable {prog : Program} {w : World} {A : Around} {E : Value → Shared → Prop} {s : Shared}

theorem alive {a : Addr} {Q : Option Obj → Shared → Prop} (h : Q (s.heap.get? a) s) : wpAny (model prog w) A (loadIfAlive a) Q E s := fun _ _ _ => h

theorem forIn_by {α β : Type} {body : α → β → Sem (ForInStep β)} {Q : β → Shared → Prop} (I : Nat → β → Shared → Prop) : ∀ (l : List α) (k : Nat) (b : β) (s : Shared), I k b s →
    (∀ j x b s, l[j]? = some x → I (k + j) b s → wpAny (model prog w) A (body x b) (fun r s' => ∃ b', r = .yield b' ∧ I (k + j + 1) b' s') E s) →
    (∀ b s, I (k + l.length) b s → Q b s) → wpAny (model prog w) A (forIn l b body) Q E s
  | [], k, b, s, h0, _, hd => by
    rw [List.forIn_nil]
    exact wpAny_pure (hd b s h0)
  | x :: l, k, b, s, h0, hs, hd => by
    rw [List.forIn_cons]
    refine wpAny_bind (wpAny_mono (hs 0 x b s rfl h0) (fun r s' h => ?_) fun _ _ z => z)
    obtain ⟨b', rfl, h1⟩ := h
    refine forIn_by I l (k + 1) b' s' h1 (fun j x b s e i => ?_) fun b s i => hd b s ?_
    · have e1 : k + 1 + j = k + (j + 1) := by omega
      rw [e1] at i
      rw [show k + 1 + j + 1 = k + (j + 1) + 1 by omega]
      exact hs (j + 1) x b s e i
    · rw [List.length_cons, show k + (l.length + 1) = k + 1 + l.length by omega]
      exact i

/-- an iterator, its list, the list's items -/
structure Rw where
  it : Addr
  l : Addr
  xs : Array Value

structure Apart (z TI TO : Addr) (rs : List Rw) : Prop where
  TIz : TI ≠ z
  TOz : TO ≠ z
  TITO : TI ≠ TO
  itz : ∀ r ∈ rs, r.it ≠ z ∧ r.it ≠ TI ∧ r.it ≠ TO
  nd : ∀ (i j : Nat) (r q : Rw), rs[i]? = some r → rs[j]? = some q → i ≠ j → r.it ≠ q.it
  lz : ∀ r ∈ rs, r.l ≠ z ∧ r.l ≠ TO
  ll : ∀ r ∈ rs, ∀ q ∈ rs, r.l ≠ q.it

abbrev ZipO (h : Heap) (z TI TO : Addr) (f0 : Value) (f : Bool) : Prop :=
  h.get? z = some { cls := .type "zip", dict := none, data := .fields #[f0, .bool f, .bool false, .ref TI, .ref TO], slots := #[] }
abbrev TupO (h : Heap) (T : Addr) (vs : Array Value) : Prop := h.get? T = some { cls := .type "tuple", data := .seq vs }

/-- what its first field may be between two turns -/
def Fld0 (f0 : Value) : Prop := f0 = .none ∨ ∃ T : Addr, f0 = rawInt T

/-- the rows, those before j one item further -/
def Its (h : Heap) (rs : List Rw) (k j : Nat) : Prop := ∀ m r, rs[m]? = some r → h.IsListIter r.it r.l (if m < j then k + 1 else k) ∧ h.IsList r.l r.xs

theorem owned {z TI TO : Addr} {f0 : Value} {f : Bool} {Q : Bool → Shared → Prop} (hf : Fld0 f0) (hz : ZipO s.heap z TI TO f0 f)
    (h : ∀ h' b f', ZipO h' z TI TO f0 f' → Heap.SameBut z s.heap h' → Q b { s with heap := h' }) : wpAny (model prog w) A (Builtin.SmallTypes.ownedTupleIsFree (.ref z)) Q E s := by
  unfold Builtin.SmallTypes.ownedTupleIsFree
  refine wpAny_bind (wpAny_field hz rfl (x := f0) rfl ?_)
  rcases hf with rfl | ⟨T, rfl⟩
  · exact wpAny_pure (h s.heap true f hz (Heap.SameBut.refl _ _))
  · show wpAny _ _ (loadIfAlive ((T : Int).toNat) >>= _) _ _ _
    rw [Int.toNat_natCast]
    refine wpAny_bind (alive ?_)
    cases e : s.heap.get? T with
    | none =>
      simp only [Option.isNone_none, if_true]
      exact wpAny_pure (h s.heap true f hz (Heap.SameBut.refl _ _))
    | some oT =>
      simp only [Option.isNone_some, Bool.false_eq_true, if_false]
      refine wpAny_bind (wpAny_field hz rfl (x := .bool f) rfl ?_)
      cases f with
      | true =>
        rw [if_neg (show ¬ ((Value.bool true != Value.bool true) = true) from Bool.false_ne_true)]
        exact wpAny_pure (h s.heap false true hz (Heap.SameBut.refl _ _))
      | false =>
        rw [if_pos (show (Value.bool false != Value.bool true) = true from rfl)]
        exact wpAny_bind (wpAny_setField_rec hz (by simp) fun h₁ hz₁ hs₁ => wpAny_pure (h h₁ false true hz₁ hs₁))

/-- what a turn leaves as it was -/
def Kept (z TO : Addr) (rs : List Rw) (h h' : Heap) : Prop := h'.objs.size = h.objs.size ∧ ∀ c o, c ≠ z → c ≠ TO → (∀ r ∈ rs, c ≠ r.it) → h.get? c = some o → h'.get? c = some o
theorem Kept.refl (z TO : Addr) (rs : List Rw) (h : Heap) : Kept z TO rs h h := ⟨rfl, fun _ _ _ _ _ e => e⟩
theorem Kept.trans {z TO : Addr} {rs : List Rw} {h h1 h2 : Heap} (a : Kept z TO rs h h1) (b : Kept z TO rs h1 h2) : Kept z TO rs h h2 :=
  ⟨b.1.trans a.1, fun c o x y t e => b.2 c o x y t (a.2 c o x y t e)⟩
theorem Kept.z {z TO : Addr} {rs : List Rw} {h h1 : Heap} (a : Heap.SameBut z h h1) : Kept z TO rs h h1 := ⟨a.1, fun c o x _ _ e => a.extBut _ _ x e⟩
theorem Kept.TO {z TO : Addr} {rs : List Rw} {h h1 : Heap} (a : Heap.SameBut TO h h1) : Kept z TO rs h h1 := ⟨a.1, fun c o _ x _ e => a.extBut _ _ x e⟩
theorem Kept.it {z TO : Addr} {rs : List Rw} {h h1 : Heap} {r : Rw} (m : r ∈ rs) (a : Heap.SameBut r.it h h1) : Kept z TO rs h h1 := ⟨a.1, fun c o _ _ x e => a.extBut _ _ (x r m) e⟩

theorem Its.but {h h1 : Heap} {rs : List Rw} {k j : Nat} {a : Addr} (s : Heap.SameBut a h h1) (n1 : ∀ r ∈ rs, r.it ≠ a) (n2 : ∀ r ∈ rs, r.l ≠ a) (i : Its h rs k j) : Its h1 rs k j := fun m r e =>
  have hm := List.mem_of_getElem? e
  ⟨(i m r e).1.extBut s.extBut (n1 r hm), (i m r e).2.extBut s.extBut (n2 r hm)⟩
theorem Its.next {z TI TO : Addr} {rs : List Rw} (D : Apart z TI TO rs) {h h1 : Heap} {k j : Nat} {r : Rw} (e : rs[j]? = some r) (i : Its h rs k j) (n : h1.IsListIter r.it r.l (k + 1)) (s : Heap.SameBut r.it h h1) : Its h1 rs k (j + 1) := fun m q eq => by
  have hm := List.mem_of_getElem? eq
  have hr := List.mem_of_getElem? e
  refine ⟨?_, (i m q eq).2.extBut s.extBut (D.ll q hm r hr)⟩
  by_cases c : m = j
  · subst c
    rw [e] at eq
    cases eq
    rw [if_pos (Nat.lt_succ_self _)]
    exact n
  · have := (i m q eq).1.extBut s.extBut (D.nd m j q r eq e c)
    by_cases l : m < j
    · rw [if_pos l] at this
      rw [if_pos (by omega)]
      exact this
    · rw [if_neg l] at this
      rw [if_neg (by omega)]
      exact this
theorem Its.done {h : Heap} {rs : List Rw} {k : Nat} (i : Its h rs k rs.length) : Its h rs (k + 1) 0 := fun m r e => by
  have l := (List.getElem?_eq_some_iff.mp e).1
  have := i m r e
  rw [if_pos l] at this
  rw [if_neg (by omega)]
  exact this

/-- the values of the k-th turn -/
def Vs (rs : List Rw) (k : Nat) (vs : List Value) : Prop := vs.length = rs.length ∧ ∀ (m : Nat) (r : Rw), rs[m]? = some r → ∃ v, vs[m]? = some v ∧ r.xs[k]? = some v

theorem map_get {rs : List Rw} {j : Nat} {x : Value} (h : (rs.map fun r => Value.ref r.it)[j]? = some x) : ∃ r, rs[j]? = some r ∧ x = .ref r.it := by
  rw [List.getElem?_map] at h
  cases e : rs[j]? with
  | none =>
    rw [e] at h
    cases h
  | some r =>
    rw [e] at h
    exact ⟨r, rfl, (Option.some.inj h).symm⟩

theorem next_item {z TI TO : Addr} {rs : List Rw} {k : Nat} {f0 : Value} {f : Bool} {to : Array Value} {vs : List Value} {Q : Value → Shared → Prop} (D : Apart z TI TO rs) (hn : 0 < rs.length) (hl : rs.length ≤ 1000) (hf : Fld0 f0)
    (hz : ZipO s.heap z TI TO f0 f) (hTI : TupO s.heap TI (rs.map fun r => Value.ref r.it).toArray) (hTO : TupO s.heap TO to) (hto : to.size = rs.length) (hi : Its s.heap rs k 0) (hv : Vs rs k vs)
    (hQ : ∀ h' f0' f' to', Fld0 f0' → ZipO h' z TI TO f0' f' → TupO h' TI (rs.map fun r => Value.ref r.it).toArray → TupO h' TO to' → to'.size = rs.length → Its h' rs (k + 1) 0 → TupO h' s.heap.objs.size vs.toArray →
      h'.objs.size = s.heap.objs.size + 1 → (∀ c o, c ≠ z → c ≠ TO → (∀ r ∈ rs, c ≠ r.it) → s.heap.get? c = some o → h'.get? c = some o) → Q (.ref s.heap.objs.size) { s with heap := h' }) :
    wpAny (model prog w) A (Builtin.«zip.__next__» ⟨[.ref z], []⟩) (fun fin s' => ∃ v, fin = .done (.ret v) ∧ Q v s') E s := by
  show wpAny _ _ (field (.ref z) 2 >>= _) _ _ _
  refine wpAny_bind (wpAny_field hz rfl (x := .bool false) rfl ?_)
  show wpAny _ _ (field (.ref z) 3 >>= _) _ _ _
  refine wpAny_bind (wpAny_field hz rfl (x := .ref TI) rfl ?_)
  refine wpAny_bind (wpAny_seqItems hTI rfl ?_)
  have ne : (rs.map fun r => Value.ref r.it).toArray.isEmpty = false := by
    cases rs with
    | nil => simp at hn
    | cons r t => rfl
  dsimp only
  rw [ne]
  show wpAny _ _ (Builtin.SmallTypes.ownedTupleIsFree (.ref z) >>= _) _ _ _
  have TIk : ∀ {h h' : Heap}, Kept z TO rs h h' → TupO h TI (rs.map fun r => Value.ref r.it).toArray → TupO h' TI (rs.map fun r => Value.ref r.it).toArray := fun kp e =>
    kp.2 _ _ D.TIz D.TITO (fun r hr => (D.itz r hr).2.1.symm) e
  refine wpAny_bind (owned hf hz fun h1 b f1 hz1 sb1 => ?_)
  have i1 : Its h1 rs k 0 := hi.but sb1 (fun r hr => (D.itz r hr).1) fun r hr => (D.lz r hr).1
  have TO1 : TupO h1 TO to := sb1.extBut _ _ D.TOz hTO
  have K1 : Kept z TO rs s.heap h1 := .z sb1
  have hvl := hv.1
  cases b with
  | true =>
    simp only [if_true]
    refine wpAny_bind (wpAny_rule ?_)
    refine wpAny_bind (wpAny_field (s := { s with heap := h1 }) hz1 rfl (x := .ref TO) rfl ?_)
    refine wpAny_bind (wpAny_setField_rec (s := { s with heap := h1 }) hz1 (by simp) fun h2 hz2 sb2 => ?_)
    replace hz2 : ZipO h2 z TI TO .ellipsis f1 := hz2
    have i2 : Its h2 rs k 0 := i1.but sb2 (fun r hr => (D.itz r hr).1) fun r hr => (D.lz r hr).1
    have K2 : Kept z TO rs s.heap h2 := K1.trans (.z sb2)
    have TO2 : TupO h2 TO to := sb2.extBut _ _ D.TOz TO1
    refine wpAny_bind (forIn_by (fun j b s' => b = (none, ()) ∧ ∃ h' to', s' = { s with heap := h' } ∧ ZipO h' z TI TO .ellipsis f1 ∧ Its h' rs k j ∧ Kept z TO rs s.heap h' ∧ TupO h' TO to' ∧ to'.size = rs.length ∧ ∀ m, m < j → to'[m]? = vs[m]?) _ 0 _ _
      ⟨rfl, h2, to, rfl, hz2, i2, K2, TO2, hto, fun m q => by omega⟩ ?_ ?_)
    · rintro j ⟨x, kk⟩ b s' hj ⟨rfl, h', to', rfl, hz', i', K', TO', st', pre⟩
      rw [Nat.zero_add] at i' pre ⊢
      rw [List.getElem?_zipIdx] at hj
      obtain ⟨r, hr, rfl, rfl⟩ : ∃ r, rs[j]? = some r ∧ x = Value.ref r.it ∧ kk = j := by
        cases e : (rs.map fun r => Value.ref r.it)[j]? with
        | none =>
          have e' : (List.map (fun r => Value.ref r.it) rs).toArray.toList[j]? = none := e
          rw [e'] at hj
          cases hj
        | some y =>
          have e' : (List.map (fun r => Value.ref r.it) rs).toArray.toList[j]? = some y := e
          rw [e'] at hj
          obtain ⟨r, hr, rfl⟩ := map_get e
          have q := Option.some.inj hj
          have q1 := congrArg Prod.fst q
          have q2 := congrArg Prod.snd q
          exact ⟨r, hr, q1.symm, by have : 0 + j = kk := q2; omega⟩
      have hm := List.mem_of_getElem? hr
      obtain ⟨v, hv1, hv2⟩ := hv.2 kk r hr
      obtain ⟨it1, il⟩ := i' kk r hr
      rw [if_neg (Nat.lt_irrefl _)] at it1
      refine wpAny_bind (wpAny_onRaise ?_)
      show wpAny _ _ (Builtin.SmallTypes.nextOf (.ref r.it) >>= _) _ _ _
      refine wpAny_bind (wpAny_nextOf_list_item (s := { s with heap := h' }) it1 il hv2 fun h3 it3 sb3 => wpAny_pure ?_)
      have TO3 : TupO h3 TO to' := sb3.extBut _ _ (D.itz r hm).2.2.symm TO'
      have hkl := (List.getElem?_eq_some_iff.mp hr).1
      refine wpAny_bind (wpAny_seqItems (s := { s with heap := h3 }) TO3 rfl ?_)
      refine wpAny_bind (wpAny_updateSeq (s := { s with heap := h3 }) TO3 rfl (wpAny_bind (wpAny_letGo (wpAny_pure ⟨_, rfl, rfl, ?_⟩))) (Nat.le_trans (Nat.le_of_eq st') (Bw.sz63 hl)) ?_)
      · have sb4 : Heap.SameBut TO h3 (h3.update TO (Obj.mapSeq fun x => x.setIfInBounds kk v)) := Heap.SameBut.update ..
        refine ⟨_, to'.setIfInBounds kk v, rfl, sb4.extBut _ _ D.TOz.symm (sb3.extBut _ _ (D.itz r hm).1.symm hz'), (i'.next D hr it3 sb3).but sb4 (fun r hr => (D.itz r hr).2.2) (fun r hr => (D.lz r hr).2), (K'.trans (.it hm sb3)).trans (.TO sb4), ?_, ?_, fun m hm2 => ?_⟩
        · show Heap.get? _ _ = _
          rw [Heap.get?_update_self _ TO3 rfl]
          simp [Obj.mapSeq]
        · rw [Array.size_setIfInBounds]
          exact st'
        · by_cases c : kk = m
          · subst c
            rw [Array.getElem?_setIfInBounds_self_of_lt (by omega), hv1]
          · rw [Array.getElem?_setIfInBounds_ne c]
            exact pre m (by omega)
      · rw [Array.size_setIfInBounds, st']
        have := Bw.sz63 hl
        omega
    · rintro b s' ⟨rfl, h', to', rfl, hz', i', K', TO', st', pre⟩
      have hlen : 0 + (List.map (fun r => Value.ref r.it) rs).toArray.toList.zipIdx.length = rs.length := by simp
      rw [hlen] at i' pre
      have tov : to' = vs.toArray := by
        apply Array.ext_getElem?
        intro m
        by_cases c : m < rs.length
        · rw [pre m c]
          simp
        · rw [Array.getElem?_eq_none (by omega), Array.getElem?_eq_none (by simp; omega)]
      subst tov
      refine wpAny_bind (wpAny_seqItems (s := { s with heap := h' }) TO' rfl ?_)
      refine wpAny_bind (wpAny_newTuple ?_ (by have := Bw.sz63 hl; simpa [hvl] using this))
      have hsz : h'.objs.size = s.heap.objs.size := K'.1
      show wpAny _ _ (Builtin.SmallTypes.ownedTupleHandOut (.ref z) (.ref h'.objs.size) >>= _) _ _ _
      refine wpAny_bind ?_
      unfold Builtin.SmallTypes.ownedTupleHandOut
      have up6 : ∀ c o, h'.get? c = some o → (h'.push { cls := .type "tuple", data := .seq vs.toArray }).get? c = some o := fun c o e => Heap.get?_push_of_some _ e
      have hz6 : ZipO (h'.push { cls := .type "tuple", data := .seq vs.toArray }) z TI TO .ellipsis f1 := up6 _ _ hz'
      refine wpAny_bind (wpAny_setField_rec (s := { s with heap := _ }) hz6 (by simp) fun h7 hz7 sb7 => ?_)
      replace hz7 : ZipO h7 z TI TO (rawInt h'.objs.size) f1 := hz7
      refine wpAny_setField_rec (s := { s with heap := h7 }) hz7 (by simp) fun h8 hz8 sb8 => ?_
      replace hz8 : ZipO h8 z TI TO (rawInt h'.objs.size) false := hz8
      have up : ∀ c o, c ≠ z → h'.get? c = some o → h8.get? c = some o := fun c o c1 e => sb8.extBut _ _ c1 (sb7.extBut _ _ c1 (up6 c o e))
      have hzl : z < h'.objs.size := Heap.lt_size hz'
      have T8 : TupO h8 h'.objs.size vs.toArray := sb8.extBut _ _ (Nat.ne_of_gt hzl) (sb7.extBut _ _ (Nat.ne_of_gt hzl) (Heap.get?_push_size _ rfl))
      have s8 : h8.objs.size = h'.objs.size + 1 := by rw [sb8.1, sb7.1, Heap.size_push]
      have i8 : Its h8 rs (k + 1) 0 := fun m r e =>
        ⟨(i'.done m r e).1.at fun o q => up _ o (D.itz r (List.mem_of_getElem? e)).1 q, (i'.done m r e).2.at fun o q => up _ o (D.lz r (List.mem_of_getElem? e)).1 q⟩
      rw [hsz] at hz8 T8 s8
      refine wpAny_pure ⟨_, rfl, ?_⟩
      show Q (.ref h'.objs.size) _
      rw [hsz]
      exact hQ h8 _ _ _ (.inr ⟨_, rfl⟩) hz8 (up _ _ D.TIz (TIk K' hTI)) (up _ _ D.TOz TO') st' i8 T8 s8 fun c o c1 c2 c3 e => up c o c1 (K'.2 c o c1 c2 c3 e)
  | false =>
    simp only [Bool.false_eq_true, if_false]
    refine wpAny_bind ?_
    rw [← Array.forIn_toList]
    refine forIn_by (fun j b s' => b = (none, (vs.take j).toArray) ∧ ∃ h', s' = { s with heap := h' } ∧ ZipO h' z TI TO f0 f1 ∧ Its h' rs k j ∧ Kept z TO rs s.heap h' ∧ TupO h' TO to) _ 0 _ _
      ⟨rfl, h1, rfl, hz1, i1, K1, TO1⟩ ?_ ?_
    · rintro j x b s' hj ⟨rfl, h', rfl, hz', i', K', TO'⟩
      rw [Nat.zero_add] at i' ⊢
      obtain ⟨r, hr, rfl⟩ := map_get (show (rs.map fun r => Value.ref r.it)[j]? = some x from hj)
      have hm := List.mem_of_getElem? hr
      obtain ⟨v, hv1, hv2⟩ := hv.2 j r hr
      obtain ⟨it1, il⟩ := i' j r hr
      rw [if_neg (Nat.lt_irrefl _)] at it1
      refine wpAny_bind (wpAny_holding ?_)
      show wpAny _ _ (Builtin.SmallTypes.nextOf (.ref r.it) >>= _) _ _ _
      refine wpAny_bind (wpAny_nextOf_list_item (s := { s with heap := h' }) it1 il hv2 fun h3 it3 sb3 => wpAny_pure ?_)
      refine wpAny_pure ⟨_, rfl, ?_, h3, rfl, sb3.extBut _ _ (D.itz r hm).1.symm hz', i'.next D hr it3 sb3, K'.trans (.it hm sb3), sb3.extBut _ _ (D.itz r hm).2.2.symm TO'⟩
      rw [List.take_succ, hv1]
      simp
    · rintro b s' ⟨rfl, h', rfl, hz', i', K', TO'⟩
      have hlen : 0 + (List.map (fun r => Value.ref r.it) rs).toArray.toList.length = rs.length := by simp
      rw [hlen] at i' ⊢
      rw [← hvl, List.take_length]
      show wpAny _ _ (newTuple vs >>= _) _ _ _
      refine wpAny_bind (wpAny_newTuple ?_ (by have := Bw.sz63 hl; omega))
      have hsz : h'.objs.size = s.heap.objs.size := K'.1
      have up : ∀ c o, h'.get? c = some o → (h'.push { cls := .type "tuple", data := .seq vs.toArray }).get? c = some o := fun c o e => Heap.get?_push_of_some _ e
      refine wpAny_pure ⟨_, rfl, ?_⟩
      show Q (.ref h'.objs.size) _
      have T8 : TupO (h'.push { cls := .type "tuple", data := .seq vs.toArray }) h'.objs.size vs.toArray := Heap.get?_push_size _ rfl
      have s8 : (h'.push { cls := .type "tuple", data := .seq vs.toArray }).objs.size = h'.objs.size + 1 := Heap.size_push ..
      rw [hsz] at T8 s8 ⊢
      exact hQ _ _ _ _ hf (up _ _ hz') (up _ _ (TIk K' hTI)) (up _ _ TO') hto (fun m r e => ⟨(i'.done m r e).1.at fun o q => up _ o q, (i'.done m r e).2.at fun o q => up _ o q⟩) T8 s8
        fun c o c1 c2 c3 e => up c o (K'.2 c o c1 c2 c3 e)

theorem next_end {z TI TO : Addr} {r : Rw} {t : List Rw} {k : Nat} {f0 : Value} {f : Bool} {to : Array Value} {Q : PySem.Fin → Shared → Prop} (hh : A.handled = none) (D : Apart z TI TO (r :: t)) (hf : Fld0 f0)
    (hz : ZipO s.heap z TI TO f0 f) (hTI : TupO s.heap TI ((r :: t).map fun r => Value.ref r.it).toArray) (hi : Its s.heap (r :: t) k 0) (hx : r.xs[k]? = none)
    (hE : ∀ h' e, (∀ c o, c ≠ z → c ≠ TO → (∀ q ∈ r :: t, c ≠ q.it) → s.heap.get? c = some o → h'.get? c = some o) → (∃ o, h'.get? e = some o ∧ o.cls = .type "StopIteration") → E (.ref e) { s with heap := h' }) :
    wpAny (model prog w) A (Builtin.«zip.__next__» ⟨[.ref z], []⟩) Q E s := by
  have hm : r ∈ r :: t := List.mem_cons_self
  show wpAny _ _ (field (.ref z) 2 >>= _) _ _ _
  refine wpAny_bind (wpAny_field hz rfl (x := .bool false) rfl ?_)
  show wpAny _ _ (field (.ref z) 3 >>= _) _ _ _
  refine wpAny_bind (wpAny_field hz rfl (x := .ref TI) rfl ?_)
  refine wpAny_bind (wpAny_seqItems hTI rfl ?_)
  have ne : ((r :: t).map fun r => Value.ref r.it).toArray.isEmpty = false := rfl
  dsimp only
  rw [ne]
  show wpAny _ _ (Builtin.SmallTypes.ownedTupleIsFree (.ref z) >>= _) _ _ _
  refine wpAny_bind (owned hf hz fun h1 b f1 hz1 sb1 => ?_)
  have i1 : Its h1 (r :: t) k 0 := hi.but sb1 (fun r hr => (D.itz r hr).1) fun r hr => (D.lz r hr).1
  cases b with
  | true =>
    simp only [if_true]
    refine wpAny_bind (wpAny_rule ?_)
    refine wpAny_bind (wpAny_field (s := { s with heap := h1 }) hz1 rfl (x := .ref TO) rfl ?_)
    refine wpAny_bind (wpAny_setField_rec (s := { s with heap := h1 }) hz1 (by simp) fun h2 hz2 sb2 => ?_)
    replace hz2 : ZipO h2 z TI TO .ellipsis f1 := hz2
    have i2 : Its h2 (r :: t) k 0 := i1.but sb2 (fun r hr => (D.itz r hr).1) fun r hr => (D.lz r hr).1
    obtain ⟨it1, il⟩ := i2 0 r rfl
    refine wpAny_bind ?_
    rw [List.map_cons, List.zipIdx_cons, List.forIn_cons]
    refine wpAny_bind (wpAny_bind (wpAny_onRaise ?_))
    show wpAny _ _ (Builtin.SmallTypes.nextOf (.ref r.it) >>= _) _ _ _
    refine wpAny_bind (wpAny_nextOf_list_end (s := { s with heap := h2 }) hh it1 il hx fun h3 e sb3 he => ?_)
    obtain ⟨oe, hoe, hce⟩ := he
    have hz3 : ZipO h3 z TI TO .ellipsis f1 := sb3 _ _ (D.itz r hm).1.symm hz2
    have hez : e ≠ z := fun x => by subst x; rw [hz3] at hoe; cases hoe; simp at hce
    exact wpAny_setField_rec (s := { s with heap := h3 }) hz3 (by simp) fun h4 _ sb4 => hE h4 e (fun c o c1 c2 c3 x => sb4.extBut _ _ c1 (sb3 _ _ (c3 r hm) (sb2.extBut _ _ c1 (sb1.extBut _ _ c1 x)))) ⟨oe, sb4.extBut _ _ hez hoe, hce⟩
  | false =>
    simp only [Bool.false_eq_true, if_false]
    obtain ⟨it1, il⟩ := i1 0 r rfl
    refine wpAny_bind ?_
    rw [← Array.forIn_toList]
    rw [List.map_cons, List.forIn_cons]
    refine wpAny_bind (wpAny_bind (wpAny_holding ?_))
    show wpAny _ _ (Builtin.SmallTypes.nextOf (.ref r.it) >>= _) _ _ _
    exact wpAny_bind (wpAny_nextOf_list_end (s := { s with heap := h1 }) hh it1 il hx fun h3 e sb3 he => hE h3 e (fun c o c1 c2 c3 x => sb3 _ _ (c3 r hm) (sb1.extBut _ _ c1 x)) he)

theorem pyNext_item {z TI TO : Addr} {rs : List Rw} {k : Nat} {f0 : Value} {f : Bool} {to : Array Value} {vs : List Value} {Q : Option Value → Shared → Prop} (D : Apart z TI TO rs) (hn : 0 < rs.length) (hl : rs.length ≤ 1000) (hf : Fld0 f0)
    (hz : ZipO s.heap z TI TO f0 f) (hTI : TupO s.heap TI (rs.map fun r => Value.ref r.it).toArray) (hTO : TupO s.heap TO to) (hto : to.size = rs.length) (hi : Its s.heap rs k 0) (hv : Vs rs k vs)
    (hQ : ∀ h' f0' f' to', Fld0 f0' → ZipO h' z TI TO f0' f' → TupO h' TI (rs.map fun r => Value.ref r.it).toArray → TupO h' TO to' → to'.size = rs.length → Its h' rs (k + 1) 0 → TupO h' s.heap.objs.size vs.toArray →
      h'.objs.size = s.heap.objs.size + 1 → (∀ c o, c ≠ z → c ≠ TO → (∀ r ∈ rs, c ≠ r.it) → s.heap.get? c = some o → h'.get? c = some o) → Q (some (.ref s.heap.objs.size)) { s with heap := h' }) :
    wpAny (model prog w) A (pyNext (.ref z)) Q E s := by
  have hT : s.TypeIs (.ref z) "zip" := ⟨_, hz, rfl⟩
  unfold pyNext
  exact wpAny_bind (wpAny_attempt (wpAny_callSpecial?_slot (name := Str.ofString "__next__") hT F.slot_zip_next
    (wpAny_call_entry F.slot_zip_next hT F.entry_zip_next
      (next_item D hn hl hf hz hTI hTO hto hi hv fun h' a b c d1 d2 d3 d4 d5 d6 d7 d8 d9 => wpAny_pure (hQ h' a b c d1 d2 d3 d4 d5 d6 d7 d8 d9)) (F.args_zip_next_1 _))))
theorem pyNext_end {z TI TO : Addr} {r : Rw} {t : List Rw} {k : Nat} {f0 : Value} {f : Bool} {Q : Option Value → Shared → Prop} (hh : A.handled = none) (D : Apart z TI TO (r :: t)) (hf : Fld0 f0)
    (hz : ZipO s.heap z TI TO f0 f) (hTI : TupO s.heap TI ((r :: t).map fun r => Value.ref r.it).toArray) (hi : Its s.heap (r :: t) k 0) (hx : r.xs[k]? = none)
    (hQ : ∀ h', (∀ c o, c ≠ z → c ≠ TO → (∀ q ∈ r :: t, c ≠ q.it) → s.heap.get? c = some o → h'.get? c = some o) → Q none { s with heap := h' }) :
    wpAny (model prog w) A (pyNext (.ref z)) Q E s := by
  have hT : s.TypeIs (.ref z) "zip" := ⟨_, hz, rfl⟩
  unfold pyNext
  refine wpAny_bind (wpAny_attempt (wpAny_callSpecial?_slot (name := Str.ofString "__next__") hT F.slot_zip_next
    (wpAny_call_entry F.slot_zip_next hT F.entry_zip_next (next_end (to := #[]) hh D hf hz hTI hi hx fun h' e hk he => ?_) (F.args_zip_next_1 _))))
  obtain ⟨o, ho, hc⟩ := he
  refine wpAny_bind (wpAny_isInstance (T := "StopIteration") (b := true) ⟨o, ho, hc⟩ isSubtype_stop ?_)
  exact wpAny_pure (hQ _ hk)
theorem pyIter_zip {z TI TO : Addr} {f0 : Value} {f : Bool} {Q : Value → Shared → Prop} (hz : ZipO s.heap z TI TO f0 f) (h : Q (.ref z) s) : wpAny (model prog w) A (pyIter (.ref z)) Q E s := by
  have hT : s.TypeIs (.ref z) "zip" := ⟨_, hz, rfl⟩
  refine wpAny_pyIter_slot hT F.slot_zip_iter (wpAny_call_entry F.slot_zip_iter hT F.entry_zip_iter ?_ (F.args_zip_iter_1 _))
  show wpAny _ _ (ret (.ref z)) _ _ s
  exact wpAny_pure ⟨_, rfl, "zip", _, hT, F.slot_zip_next.lookup, h⟩

/-! ### zip(*lists) is made -/
theorem typeCall_zip (us : List Value) : checkTypeCall "zip" ⟨us, []⟩ = pure () := by kernel_rfl
theorem newCall_zip : ∀ us : List Value, 0 < us.length → us.length ≤ 6 → checkBuiltinCall "zip.__new__" ⟨.type "zip" :: us, []⟩ = pure ()
  | [], h, _ => by simp at h
  | [a], _, _ => by kernel_rfl
  | [a, b], _, _ => by kernel_rfl
  | [a, b, c], _, _ => by kernel_rfl
  | [a, b, c, d], _, _ => by kernel_rfl
  | [a, b, c, d, e], _, _ => by kernel_rfl
  | [a, b, c, d, e, f], _, _ => by kernel_rfl
  | _ :: _ :: _ :: _ :: _ :: _ :: _ :: _, _, h => by simp at h
theorem args_init : ∀ us : List Value, 0 < us.length → us.length ≤ 6 → ∀ o : Value, argsOk "object.__init__" ⟨o :: us, []⟩ := by
  intro us h0 h1 o
  unfold argsOk; rw [signature?_of (id := "object.__init__") (n := ['_', '_', 't', 'i', 'n', 'i', '_', '_']) (o := ['t', 'c', 'e', 'j', 'b', 'o']) (by kernel_rfl) F.owner_object]
  match us, h0, h1 with
  | [], h, _ => simp at h
  | [a], _, _ => kernel_rfl
  | [a, b], _, _ => kernel_rfl
  | [a, b, c], _, _ => kernel_rfl
  | [a, b, c, d], _, _ => kernel_rfl
  | [a, b, c, d, e], _, _ => kernel_rfl
  | [a, b, c, d, e, f], _, _ => kernel_rfl
  | _ :: _ :: _ :: _ :: _ :: _ :: _ :: _, _, h => simp at h

/-- the rows of a new zip of the lists ls, its first iterator at p -/
def rowsAt : Nat → List (Addr × Array Value) → List Rw
  | _, [] => []
  | p, l :: ls => ⟨p, l.1, l.2⟩ :: rowsAt (p + 1) ls
theorem rowsAt_len : ∀ (ls : List (Addr × Array Value)) (p : Nat), (rowsAt p ls).length = ls.length
  | [], _ => rfl
  | l :: ls, p => congrArg (· + 1) (rowsAt_len ls (p + 1))
theorem rowsAt_get : ∀ (ls : List (Addr × Array Value)) (p m : Nat), (rowsAt p ls)[m]? = (ls[m]?).map fun l => ⟨p + m, l.1, l.2⟩
  | [], _, _ => rfl
  | l :: ls, p, 0 => rfl
  | l :: ls, p, m + 1 => by
    show (rowsAt (p + 1) ls)[m]? = _
    rw [rowsAt_get ls (p + 1) m, List.getElem?_cons_succ, show p + 1 + m = p + (m + 1) by omega]

theorem rowsAt_app : ∀ (ls ms : List (Addr × Array Value)) (p : Nat), rowsAt p (ls ++ ms) = rowsAt p ls ++ rowsAt (p + ls.length) ms
  | [], ms, p => rfl
  | l :: ls, ms, p => by
    show _ :: rowsAt (p + 1) (ls ++ ms) = _
    rw [rowsAt_app ls ms (p + 1), List.length_cons, show p + 1 + ls.length = p + (ls.length + 1) by omega]
    rfl
theorem meets_new (ls : List (Addr × Array Value)) (hl : ls.length ≤ 1000) :
    Meets (Builtin.«zip.__new__» ⟨.type "zip" :: ls.map fun l => .ref l.1, []⟩) (fun _ R s => (∀ l ∈ ls, s.heap.IsList l.1 l.2) ∧
      ∀ h', ZipO h' (s.heap.objs.size + ls.length + 2) (s.heap.objs.size + ls.length) (s.heap.objs.size + ls.length + 1) .none false → TupO h' (s.heap.objs.size + ls.length) ((rowsAt s.heap.objs.size ls).map fun r => Value.ref r.it).toArray →
        TupO h' (s.heap.objs.size + ls.length + 1) (List.replicate ls.length Value.none).toArray → Its h' (rowsAt s.heap.objs.size ls) 0 0 → (∀ c o, s.heap.get? c = some o → h'.get? c = some o) →
        R (.ok (.ret (.ref (s.heap.objs.size + ls.length + 2)))) { s with heap := h' }) :=
  .of_wp fun prog w A R s h => by
    obtain ⟨hL, h⟩ := h
    have hsub := sub_zip
    obtain ⟨hp, g, d, tk, os⟩ := s
    unfold Builtin.«zip.__new__» Builtin.SmallTypes.newClass
    repeat (any_goals (first | assumption | wp_step))
    show wpAny _ _ (forIn (ls.map fun l => Value.ref l.1) (#[] : Array Value) fun x its => holding its.toList (pyIter x) >>= fun v => pure (ForInStep.yield (its.push v))) _ _ _
    dsimp only at hL h
    refine forIn_by (s := ⟨hp, g, d, tk, os⟩) (fun j b s' => j ≤ ls.length ∧ b = ((rowsAt hp.objs.size (ls.take j)).map fun r => Value.ref r.it).toArray ∧ ∃ h', s' = ⟨h', g, d, tk, os⟩ ∧ h'.objs.size = hp.objs.size + j ∧ Its h' (rowsAt hp.objs.size (ls.take j)) 0 0 ∧
      (∀ c o, hp.get? c = some o → h'.get? c = some o)) _ 0 _ ⟨Nat.zero_le _, rfl, hp, rfl, rfl, fun m r e => (by simp [rowsAt] at e), fun _ _ e => e⟩ ?_ ?_
    · rintro j x b s' hj ⟨hjl, rfl, h', rfl, hsz, hi, hk⟩
      rw [Nat.zero_add] at hi hsz hjl ⊢
      rw [List.getElem?_map] at hj
      cases e : ls[j]? with
      | none =>
        rw [e] at hj
        cases hj
      | some l =>
        rw [e] at hj
        have hx : Value.ref l.1 = x := Option.some.inj hj
        subst hx
        have hlt := (List.getElem?_eq_some_iff.mp e).1
        have hll : h'.IsList l.1 l.2 := (hL l (List.mem_of_getElem? e)).at fun o q => hk _ o q
        refine wpAny_bind (wpAny_holding (wpAny_pyIter_list (s := ⟨h', g, d, tk, os⟩) hll (wpAny_pure ⟨_, rfl, hlt, ?_, _, rfl, ?_, ?_, fun c o q => Heap.get?_push_of_some _ (hk c o q)⟩)))
        · rw [List.take_succ, e, rowsAt_app, List.map_append]
          show Array.push _ (Value.ref h'.objs.size) = _
          rw [hsz, List.length_take, Nat.min_eq_left (Nat.le_of_lt hlt)]
          simp [rowsAt]
        · rw [Heap.size_push, hsz]
          omega
        · intro m r er
          rw [List.take_succ, e, rowsAt_app, List.length_take, Nat.min_eq_left (Nat.le_of_lt hlt)] at er
          have up : ∀ c o, h'.get? c = some o → (h'.push { cls := .type "list_iterator", data := .fields #[.ref l.1, .int 0 0] }).get? c = some o := fun c o q => Heap.get?_push_of_some _ q
          rw [List.getElem?_append] at er
          split at er
          · exact ⟨(hi m r er).1.at fun o q => up _ o q, (hi m r er).2.at fun o q => up _ o q⟩
          · have em : r = ⟨hp.objs.size + j, l.1, l.2⟩ := by
              simp only [Option.toList, rowsAt] at er
              have := List.mem_of_getElem? er
              simpa using this
            subst em
            refine ⟨?_, hll.at fun o q => up _ o q⟩
            rw [if_neg (Nat.not_lt_zero _)]
            show Heap.IsListIter _ (hp.objs.size + j) _ _
            rw [← hsz]
            exact ⟨_, Heap.get?_push_size _ rfl, rfl, rfl⟩
    · rintro b s' ⟨hjl, rfl, h', rfl, hsz, hi, hk⟩
      have hlen : 0 + (ls.map fun l => Value.ref l.1).length = ls.length := by simp
      rw [hlen] at hsz hi ⊢
      rw [List.take_length] at hi ⊢
      refine wpAny_pure ?_
      have rl : ((rowsAt hp.objs.size ls).map fun r => Value.ref r.it).length = ls.length := by rw [List.length_map, rowsAt_len]
      refine wpAny_bind (wpAny_newTuple ?_ (by have := Bw.sz63 hl; show ((rowsAt hp.objs.size ls).map fun r => Value.ref r.it).length ≤ _; omega))
      refine wpAny_bind (wpAny_newTuple ?_ (by have := Bw.sz63 hl; rw [List.length_map]; show ((rowsAt hp.objs.size ls).map fun r => Value.ref r.it).length ≤ _; omega))
      refine wpAny_bind ?_
      unfold Builtin.SmallTypes.newRecord Builtin.SmallTypes.ownedTupleFields
      refine wpAny_newObj_type ?_ (by size_fits)
      refine wpAny_pure ⟨_, rfl, ?_⟩
      have l1 : (rowsAt hp.objs.size ls).length = ls.length := rowsAt_len _ _
      generalize rowsAt hp.objs.size ls = rs at h hi l1 ⊢
      have e1 : (List.map (fun x => Value.none) (List.map (fun r => Value.ref r.it) rs).toArray.toList).toArray = (List.replicate ls.length Value.none).toArray := by
        rw [← l1]
        congr 1
        show List.map (fun x => Value.none) (List.map (fun r => Value.ref r.it) rs) = _
        rw [List.map_map]
        exact List.map_const
      rw [e1]
      have t1 : TupO (h'.push { cls := .type "tuple", data := .seq (List.map (fun r => Value.ref r.it) rs).toArray }) h'.objs.size (List.map (fun r => Value.ref r.it) rs).toArray := Heap.get?_push_size _ rfl
      have z1 : (h'.push { cls := .type "tuple", data := .seq (List.map (fun r => Value.ref r.it) rs).toArray }).objs.size = h'.objs.size + 1 := Heap.size_push ..
      have k1 : ∀ c o, h'.get? c = some o → (h'.push { cls := .type "tuple", data := .seq (List.map (fun r => Value.ref r.it) rs).toArray }).get? c = some o := fun c o q => Heap.get?_push_of_some _ q
      show R (.ok (.ret (.ref _))) ⟨Heap.push (Heap.push (Heap.push h' { cls := .type "tuple", data := .seq (List.map (fun r => Value.ref r.it) rs).toArray }) { cls := .type "tuple", data := .seq (List.replicate ls.length Value.none).toArray })
        { cls := .type "zip", data := .fields #[.none, .bool false, .bool false, .ref h'.objs.size, .ref (h'.push { cls := .type "tuple", data := .seq (List.map (fun r => Value.ref r.it) rs).toArray }).objs.size] }, g, d, tk, os⟩
      generalize h'.push { cls := .type "tuple", data := .seq (List.map (fun r => Value.ref r.it) rs).toArray } = h1 at t1 z1 k1 ⊢
      have t2 : TupO (h1.push { cls := .type "tuple", data := .seq (List.replicate ls.length Value.none).toArray }) h1.objs.size (List.replicate ls.length Value.none).toArray := Heap.get?_push_size _ rfl
      have z2 : (h1.push { cls := .type "tuple", data := .seq (List.replicate ls.length Value.none).toArray }).objs.size = h1.objs.size + 1 := Heap.size_push ..
      have k2 : ∀ c o, h1.get? c = some o → (h1.push { cls := .type "tuple", data := .seq (List.replicate ls.length Value.none).toArray }).get? c = some o := fun c o q => Heap.get?_push_of_some _ q
      show R (.ok (.ret (.ref (h1.push { cls := .type "tuple", data := .seq (List.replicate ls.length Value.none).toArray }).objs.size))) _
      generalize h1.push { cls := .type "tuple", data := .seq (List.replicate ls.length Value.none).toArray } = h2 at t2 z2 k2 ⊢
      rw [z1, hsz] at t2 z2 ⊢
      rw [hsz] at t1
      rw [z2]
      have t3 : ZipO (h2.push { cls := .type "zip", data := .fields #[.none, .bool false, .bool false, .ref (hp.objs.size + ls.length), .ref (hp.objs.size + ls.length + 1)] }) h2.objs.size (hp.objs.size + ls.length) (hp.objs.size + ls.length + 1) .none false := Heap.get?_push_size _ rfl
      have k3 : ∀ c o, h2.get? c = some o → (h2.push { cls := .type "zip", data := .fields #[.none, .bool false, .bool false, .ref (hp.objs.size + ls.length), .ref (hp.objs.size + ls.length + 1)] }).get? c = some o := fun c o q => Heap.get?_push_of_some _ q
      rw [z2] at t3
      exact h _ t3 (k3 _ _ (k2 _ _ t1)) (k3 _ _ t2) (fun m r e => ⟨(hi m r e).1.at fun o q => k3 _ o (k2 _ o (k1 _ o q)), (hi m r e).2.at fun o q => k3 _ o (k2 _ o (k1 _ o q))⟩) fun c o q => k3 _ o (k2 _ o (k1 _ o (hk c o q)))

/-- call -/
theorem call_zip (ls : List (Addr × Array Value)) (h0 : 0 < ls.length) (h6 : ls.length ≤ 6) {Q : Value → Shared → Prop} (hL : ∀ l ∈ ls, s.heap.IsList l.1 l.2)
    (h : ∀ h', ZipO h' (s.heap.objs.size + ls.length + 2) (s.heap.objs.size + ls.length) (s.heap.objs.size + ls.length + 1) .none false → TupO h' (s.heap.objs.size + ls.length) ((rowsAt s.heap.objs.size ls).map fun r => Value.ref r.it).toArray →
        TupO h' (s.heap.objs.size + ls.length + 1) (List.replicate ls.length Value.none).toArray → Its h' (rowsAt s.heap.objs.size ls) 0 0 → (∀ c o, s.heap.get? c = some o → h'.get? c = some o) →
        Q (.ref (s.heap.objs.size + ls.length + 2)) { s with heap := h' }) :
    wpAny (model prog w) A (call (.type "zip") (ls.map fun l => .ref l.1)) Q E s := by
  have l1 : (ls.map fun l => Value.ref l.1).length = ls.length := List.length_map _
  refine callType_new F.called_zip (by decide) (typeCall_zip _) (newCall_zip _ (by omega) (by omega)) (args_init _ (by omega) (by omega)) F.entry_zip_new (meets_new ls (by omega)) ⟨hL, fun h' a b c d e => ?_⟩
  exact ⟨⟨_, a, rfl⟩, h h' a b c d e⟩
end

/-- the lists at as, as they stand at each turn, the items in new tuples -/
def ItzN (K : PySem.W.Frag) (as : List Addr) : It :=
  ⟨fun i H => ∀ a ∈ as, ∃ xs, SqL K H a xs ∧ i < xs.length,
    fun i H v H' => ∃ T vs, v = .ref T ∧ H T = none ∧ H' = upd H T (.tup vs) ∧ vs.length = as.length ∧ ∀ (m : Nat) a xs, as[m]? = some a → SqL K H a xs → vs[m]? = xs[i]?,
    fun i H => ∃ a xs, as[0]? = some a ∧ (∀ b ∈ as, ∃ ys, SqL K H b ys) ∧ SqL K H a xs ∧ xs.length ≤ i⟩

theorem eqN {a b : Addr} (h : a = b) : @Eq Nat a b := h
theorem neN {a b : Addr} (h : ¬ @Eq Nat a b) : a ≠ b := h
def rowsOf (p : Nat) (as : List Addr) (g : Addr → Array Value) : List Rw := rowsAt p (as.map fun a => (a, g a))
theorem rowsOf_len (p : Nat) (as : List Addr) (g : Addr → Array Value) : (rowsOf p as g).length = as.length := by
  unfold rowsOf
  rw [rowsAt_len, List.length_map]
theorem rowsOf_get {p : Nat} {as : List Addr} {g : Addr → Array Value} {m : Nat} {r : Rw} (h : (rowsOf p as g)[m]? = some r) : ∃ a, as[m]? = some a ∧ r = ⟨p + m, a, g a⟩ := by
  unfold rowsOf at h
  rw [rowsAt_get, List.getElem?_map] at h
  cases e : as[m]? with
  | none =>
    rw [e] at h
    cases h
  | some a =>
    rw [e] at h
    exact ⟨a, rfl, (Option.some.inj h).symm⟩
theorem rowsOf_it : ∀ (as : List Addr) (p : Nat) (g : Addr → Array Value), (rowsOf p as g).map (fun r => Value.ref r.it) = (List.range' p as.length).map Value.ref
  | [], _, _ => rfl
  | a :: as, p, g => by
    show Value.ref p :: (rowsOf (p + 1) as g).map (fun r => Value.ref r.it) = _
    rw [rowsOf_it as (p + 1) g]
    rfl
theorem apart {p : Nat} {as : List Addr} (h : ∀ a ∈ as, a < p) (g : Addr → Array Value) : Apart (p + as.length + 2) (p + as.length) (p + as.length + 1) (rowsOf p as g) := by
  have get : ∀ r ∈ rowsOf p as g, ∃ m a, m < as.length ∧ a < p ∧ r = ⟨p + m, a, g a⟩ := fun r hr => by
    obtain ⟨m, hm⟩ := List.mem_iff_getElem?.mp hr
    obtain ⟨a, ha, e⟩ := rowsOf_get hm
    exact ⟨m, a, (List.getElem?_eq_some_iff.mp ha).1, h a (List.mem_of_getElem? ha), e⟩
  refine ⟨?_, ?_, ?_, fun r hr => ?_, fun i j r q hi hj ne => ?_, fun r hr => ?_, fun r hr q hq => ?_⟩
  · exact neN (by omega)
  · exact neN (by omega)
  · exact neN (by omega)
  · obtain ⟨m, a, hm, ha, rfl⟩ := get r hr
    refine ⟨?_, ?_, ?_⟩ <;> (refine neN ?_; show ¬ @Eq Nat (p + m) _; omega)
  · obtain ⟨a, ha, rfl⟩ := rowsOf_get hi
    obtain ⟨b, hb, rfl⟩ := rowsOf_get hj
    exact neN (by show ¬ @Eq Nat (p + i) (p + j); omega)
  · obtain ⟨m, a, hm, ha, rfl⟩ := get r hr
    refine ⟨?_, ?_⟩ <;> (show ¬ (a = _); exact Nat.ne_of_lt (Nat.lt_of_lt_of_le ha (by omega)))
  · obtain ⟨m, a, hm, ha, rfl⟩ := get r hr
    obtain ⟨m2, a2, hm2, ha2, rfl⟩ := get q hq
    show ¬ (a = p + m2)
    exact Nat.ne_of_lt (Nat.lt_of_lt_of_le ha (by omega))

def fpN (p n : Nat) : List Addr := List.range' p (n + 3)
theorem fp_mem {p n c : Nat} : c ∈ fpN p n ↔ p ≤ c ∧ c < p + n + 3 := by
  unfold fpN
  rw [List.mem_range'_1]
  omega
def TnN (p : Nat) (as : List Addr) (i : Nat) (h : Heap) : Prop := ∃ f0 f to, Fld0 f0 ∧ ZipO h (p + as.length + 2) (p + as.length) (p + as.length + 1) f0 f ∧ TupO h (p + as.length) ((List.range' p as.length).map Value.ref).toArray ∧
  TupO h (p + as.length + 1) to ∧ to.size = as.length ∧ ∀ (m : Nat) a, as[m]? = some a → h.IsListIter (p + m) a i

theorem turnN {P : Program} {w : World} {K : PySem.W.Frag} {x : Str} {tpos : Pos} {p : Nat} {as : List Addr} (ha : ∀ a ∈ as, a < p) (h0 : 0 < as.length) (h6 : as.length ≤ 6) :
    Turn P w K (.Name x tpos) (ItzN K as) (fpN p as.length) (p + as.length + 2) (TnN p as) where
  mem := fp_mem.mpr ⟨by omega, by omega⟩
  obj := fun i h st c hc => by
    obtain ⟨f0, f, to, hf, hz, hTI, hTO, hto, hi⟩ := st
    obtain ⟨l, u⟩ := fp_mem.mp hc
    by_cases c1 : c = p + as.length + 2
    · rw [c1]; exact ⟨_, hz, fun v q => nomatch q⟩
    by_cases c2 : c = p + as.length + 1
    · rw [c2]; exact ⟨_, hTO, fun v q => nomatch q⟩
    by_cases c3 : c = p + as.length
    · rw [c3]; exact ⟨_, hTI, fun v q => nomatch q⟩
    have c1' : ¬ @Eq Nat c (p + as.length + 2) := c1
    have c2' : ¬ @Eq Nat c (p + as.length + 1) := c2
    have c3' : ¬ @Eq Nat c (p + as.length) := c3
    obtain ⟨m, e⟩ : ∃ m : Nat, c = p + m := Nat.exists_eq_add_of_le l
    have e2 := eqN e
    have hm : m < as.length := by omega
    obtain ⟨o, ho, _, d⟩ := hi m as[m] (List.getElem?_eq_getElem hm)
    rw [← e] at ho
    exact ⟨o, ho, fun v q => by rw [d] at q; cases q⟩
  keep := fun i h h' st k => by
    obtain ⟨f0, f, to, hf, hz, hTI, hTO, hto, hi⟩ := st
    refine ⟨f0, f, to, hf, k _ (fp_mem.mpr ⟨by omega, by omega⟩) _ hz, k _ (fp_mem.mpr ⟨by omega, by omega⟩) _ hTI, k _ (fp_mem.mpr ⟨by omega, by omega⟩) _ hTO, hto, fun m a e => ?_⟩
    have hm := (List.getElem?_eq_some_iff.mp e).1
    exact (hi m a e).at fun o q => k _ (fp_mem.mpr ⟨by omega, by omega⟩) o q
  item := by
    intro X hP hw hK hc i pins s σ H E I hf st hg
    subst hP hw hK
    obtain ⟨f0, f, to, hf0, hz, hTI, hTO, hto, hi⟩ := st
    have hg' : ∀ a : Addr, ∃ q : V × Value × Array Value, a ∈ as → (∃ xs, SqL X.K H a xs ∧ xs[i]? = some q.1) ∧ s.heap.IsList a q.2.2 ∧ q.2.2[i]? = some q.2.1 ∧ RelV q.1 q.2.1 := fun a => by
      by_cases m : a ∈ as
      · obtain ⟨xs, hx, hl⟩ := hg a m
        obtain ⟨its, rv, pl, _⟩ := I.list hx
        obtain ⟨u, hu, ru⟩ := rv.get (List.getElem?_eq_getElem hl)
        exact ⟨(xs[i], u, its.toArray), fun _ => ⟨⟨xs, hx, List.getElem?_eq_getElem hl⟩, pl.isList, by simpa using hu, ru⟩⟩
      · exact ⟨(.non, .none, #[]), fun z => absurd z m⟩
    let G := fun a => Classical.choose (hg' a)
    have hG : ∀ a ∈ as, (∃ xs, SqL X.K H a xs ∧ xs[i]? = some (G a).1) ∧ s.heap.IsList a (G a).2.2 ∧ (G a).2.2[i]? = some (G a).2.1 ∧ RelV (G a).1 (G a).2.1 := fun a m => Classical.choose_spec (hg' a) m
    generalize G = G at hG
    have rl := rowsOf_len p as fun a => (G a).2.2
    have D := apart ha fun a => (G a).2.2
    have rit := rowsOf_it as p fun a => (G a).2.2
    have HIts : Its s.heap (rowsOf p as fun a => (G a).2.2) i 0 := fun m r e => by
      obtain ⟨a, ea, rfl⟩ := rowsOf_get e
      rw [if_neg (Nat.not_lt_zero _)]
      exact ⟨hi m a ea, (hG a (List.mem_of_getElem? ea)).2.1⟩
    have hV : Vs (rowsOf p as fun a => (G a).2.2) i (as.map fun a => (G a).2.1) := ⟨by rw [List.length_map, rl], fun m r e => by
      obtain ⟨a, ea, rfl⟩ := rowsOf_get e
      exact ⟨(G a).2.1, by rw [List.getElem?_map, ea]; rfl, (hG a (List.mem_of_getElem? ea)).2.2.1⟩⟩
    have hzl : p + as.length + 2 < s.heap.objs.size := Heap.lt_size hz
    rw [← rit] at hTI
    refine pyNext_item D (by omega) (by omega) hf0 hz hTI hTO (by omega) HIts hV fun h' f0' f' to' hf0' z' TI' TO' to2 i' hT hsz hk => ?_
    refine ⟨_, rfl, ?_⟩
    show wpAny _ _ (letOwnedTupleGo (.Name x tpos) _ _) _ _ _
    refine wpAny_pure ?_
    have rvs : ∀ bs : List Addr, (∀ b ∈ bs, b ∈ as) → Vals (bs.map fun a => (G a).1) (bs.map fun a => (G a).2.1) := fun bs => by
      induction bs with
      | nil => exact fun _ => .nil
      | cons b bs ih => exact fun h => .cons (hG b (h b List.mem_cons_self)).2.2.2 (ih fun c hc => h c (List.mem_cons_of_mem _ hc))
    have new : ObjOk X.prog X.w (upd H s.heap.objs.size (.tup (as.map fun a => (G a).1))) h' s.heap.objs.size (.tup (as.map fun a => (G a).1)) :=
      ⟨by show (as.map fun a => (G a).1).length ≤ sizeLine; rw [List.length_map]; exact Bw.sz63 (by omega), as.map fun a => (G a).2.1, rvs as fun _ h => h, ⟨_, hT, rfl, _, rfl⟩⟩
    have I1 : Inv X pins σ (upd H s.heap.objs.size (.tup (as.map fun a => (G a).1))) { s with heap := h' } :=
      I.turnedNew (t' := s.toks) (ch := fpN p as.length) (fun c o hb q => hk c o (fun e => hb (fp_mem.mpr (by have := eqN e; omega))) (fun e => hb (fp_mem.mpr (by have := eqN e; omega))) (fun r hr e => hb (by
        obtain ⟨m, hm⟩ := List.mem_iff_getElem?.mp hr
        obtain ⟨a, ea, rfl⟩ := rowsOf_get hm
        have hm2 := (List.getElem?_eq_some_iff.mp ea).1
        have e' := eqN e
        have e'' : @Eq Nat c (p + m) := e'
        exact fp_mem.mpr (by omega))) q) hf (Nat.le_refl _) new
    refine ⟨.ref s.heap.objs.size, _, I1, rfl, ⟨_, _, rfl, I.hok.fresh (Nat.le_refl _), rfl, by rw [List.length_map], fun m a xs ea hx => ?_⟩, ⟨f0', f', to', hf0', z', by rw [rit] at TI'; exact TI', TO', by omega, fun m a ea => ?_⟩, fun c hcm => ?_⟩
    · rw [List.getElem?_map, ea]
      obtain ⟨ys, hy, ey⟩ := (hG a (List.mem_of_getElem? ea)).1
      rw [I.list_inj hx hy, ey]
      rfl
    · have er : (rowsOf p as fun a => (G a).2.2)[m]? = some ⟨p + m, a, (G a).2.2⟩ := by
        unfold rowsOf
        rw [rowsAt_get, List.getElem?_map, ea]
        rfl
      have := (i' m _ er).1
      rw [if_neg (Nat.not_lt_zero _)] at this
      exact this
    · obtain ⟨l, u⟩ := fp_mem.mp hcm
      have hlt : c < s.heap.objs.size := Nat.lt_of_lt_of_le u (by omega)
      rw [upd_ne (Nat.ne_of_lt hlt)]
      exact (hf c hcm).1
  done := by
    intro X hP hw hK hc i pins s σ H E I hf st hg
    subst hP hw hK
    obtain ⟨f0, f, to, hf0, hz, hTI, hTO, hto, hi⟩ := st
    obtain ⟨a0, xs0, ea0, hall, hx0, hle⟩ := hg
    have hg' : ∀ a : Addr, ∃ q : Array Value, a ∈ as → s.heap.IsList a q ∧ (a = a0 → q[i]? = none) := fun a => by
      by_cases m : a ∈ as
      · by_cases c : a = a0
        · subst c
          obtain ⟨its, rv, pl, _⟩ := I.list hx0
          have := rv.length
          exact ⟨its.toArray, fun _ => ⟨pl.isList, fun _ => by simp; omega⟩⟩
        · obtain ⟨ys, hy⟩ := hall a m
          obtain ⟨its, rv, pl, _⟩ := I.list hy
          exact ⟨its.toArray, fun _ => ⟨pl.isList, fun z => absurd z c⟩⟩
      · exact ⟨#[], fun z => absurd z m⟩
    let G := fun a => Classical.choose (hg' a)
    have hG : ∀ a ∈ as, s.heap.IsList a (G a) ∧ (a = a0 → (G a)[i]? = none) := fun a m => Classical.choose_spec (hg' a) m
    generalize G = G at hG
    have rl := rowsOf_len p as G
    have D := apart ha G
    have rit := rowsOf_it as p G
    have HIts : Its s.heap (rowsOf p as G) i 0 := fun m r e => by
      obtain ⟨a, ea, rfl⟩ := rowsOf_get e
      rw [if_neg (Nat.not_lt_zero _)]
      exact ⟨hi m a ea, (hG a (List.mem_of_getElem? ea)).1⟩
    rw [← rit] at hTI
    have hr0 : (rowsOf p as G)[0]? = some ⟨p + 0, a0, G a0⟩ := by
      unfold rowsOf
      rw [rowsAt_get, List.getElem?_map, ea0]
      rfl
    have hx := (hG a0 (List.mem_of_getElem? ea0)).2 rfl
    have hk2 : ∀ r ∈ rowsOf p as G, ∃ m, m < as.length ∧ r.it = p + m := fun r hr => by
      obtain ⟨m, hm⟩ := List.mem_iff_getElem?.mp hr
      obtain ⟨a, ea, rfl⟩ := rowsOf_get hm
      exact ⟨m, (List.getElem?_eq_some_iff.mp ea).1, rfl⟩
    generalize rowsOf p as G = rs at rl D rit HIts hTI hr0 hk2
    cases rs with
    | nil => cases hr0
    | cons r t =>
      have er : r = ⟨p + 0, a0, G a0⟩ := Option.some.inj hr0
      have hx' : r.xs[i]? = none := by rw [er]; exact hx
      refine pyNext_end (I.ok.hd hc) D hf0 hz hTI HIts hx' fun h' hk => ⟨rfl, I.turnedL (t' := s.toks) (ch := fpN p as.length) (fun c o hb q =>
        hk c o (fun e => hb (fp_mem.mpr (by have := eqN e; omega))) (fun e => hb (fp_mem.mpr (by have := eqN e; omega))) (fun q hq e => hb (by
          obtain ⟨m, hm, e2⟩ := hk2 q hq
          have e' := eqN e
          have e'' := eqN e2
          exact fp_mem.mpr (by omega))) q) hf⟩
  self := fun A i s Q E st h => by
    obtain ⟨f0, f, to, hf0, hz, _⟩ := st
    exact pyIter_zip hz h

/-- for x in zip( *lists) -/
def iZipN (K : PySem.W.Frag) (te : TE) : TI := fun σ H R => te σ H fun v H1 => ∃ (p : Addr) (as : List Addr), v = .ref p ∧ (SqT K H1 p (as.map V.ref) ∨ SqL K H1 p (as.map V.ref)) ∧ 0 < as.length ∧ as.length ≤ 6 ∧ (∀ a ∈ as, ∃ xs, SqL K H1 a xs) ∧ R (ItzN K as) H1
theorem vals_refs : ∀ {as : List Addr} {us : List Value}, Vals (as.map V.ref) us → us = as.map Value.ref
  | [], _, .nil => rfl
  | a :: as, _, .cons r t => by
    rw [vals_refs t]
    rw [show _ = Value.ref a from r]
    rfl
theorem callWith_typeS {M : Model} {A : Around} {E : Value → Shared → Prop} {s : Shared} {pos p : Pos} {T : String} {env : Env} {e : Expr} {Q : Value → Shared → Prop}
    (h : wpAny M A (eval e env) (fun v s₁ => PySem.W.StarOf M A E v (fun vs s₂ => wpAny M A (call (.type T) vs) Q E s₂) s₁) E s) (he : starEach [.Starred e p] env = [(true, eval e env)] := by rfl) :
    wpAny M A (callWith pos (.type T) [] (backTo pos (starEach [.Starred e p] env)) []) Q E s := by
  rw [he]
  have h := PySem.W.ks_lone (f := .type T) (pos := pos) (Q := fun a s₁ => wpAny M A (call (.type T) ([] ++ a.pos) a.kw) Q E s₁) h
  unfold callWith
  refine wpAny_bind (wpAny_holding (wpAny_mono h (fun a s₁ h₁ => wpAny_bind (wpAny_standAt ?_)) fun _ _ x => x))
  refine wpAny_bind (wpAny_pure ?_)
  have tail : ∀ {t : Sem Value}, wpAny M A t Q E s₁ → wpAny M A (t >>= fun r => holding [r] point >>= fun _ => pure r) Q E s₁ :=
    fun ht => wpAny_bind (wpAny_mono ht (fun r s₂ hr => wpAny_bind (wpAny_holding (wpAny_point (wpAny_pure hr)))) fun _ _ x => x)
  exact tail (wpAny_operating h₁)

theorem pi_zipN {X : Cx} {e : Expr} {te : TE} {x : Str} {p pos sp tpos : Pos} (hg : Gl X "zip") (hm : X.mg "zip" = none) (he : PE X e te)
    (hst : starEach [.Starred e sp] X.env = [(true, eval e X.env)] := by rfl) :
    PI X (.Name x tpos) (.Call (.Name "zip" p) [.Starred e sp] [] pos) (iZipN X.K te) := by
  refine ⟨fun pins s σ H R I h => ?_⟩
  refine Call_ (ld_blt I hg hm PyProof.Rows.boot_zip (callWith_typeS (thn (he.run pins s σ H _ I h) fun v s1 ⟨y, H1, I1, ry, q1⟩ => ?_) hst))
  obtain ⟨a, as, rfl, hq, h0, h6, hL, q⟩ := q1
  obtain rfl : v = Value.ref a := ry
  refine StX.star_any I1 hq fun us s2 I2 rv => ?_
  obtain rfl := vals_refs rv
  have hL' : ∀ b : Addr, ∃ its : Array Value, b ∈ as → s2.heap.IsList b its := fun b => by
    by_cases m : b ∈ as
    · obtain ⟨xs, hx⟩ := hL b m
      obtain ⟨its, _, pl, _⟩ := I2.list hx
      exact ⟨its.toArray, fun _ => pl.isList⟩
    · exact ⟨#[], fun z => absurd z m⟩
  let G := fun b => Classical.choose (hL' b)
  have hG : ∀ b ∈ as, s2.heap.IsList b (G b) := fun b m => Classical.choose_spec (hL' b) m
  generalize G = G at hG
  have lt : ∀ b ∈ as, b < s2.heap.objs.size := fun b m => by
    obtain ⟨o, ho, _⟩ := hG b m
    exact Heap.lt_size ho
  have e1 : as.map Value.ref = (as.map fun b => (b, G b)).map fun l => Value.ref l.1 := by
    rw [List.map_map]
    rfl
  rw [e1]
  have l1 : (as.map fun b => (b, G b)).length = as.length := List.length_map _
  refine call_zip _ (by omega) (by omega) (fun l hl => ?_) fun h' hz hTI hTO hi hk => pyIter_zip hz ?_
  · obtain ⟨b, hb, rfl⟩ := List.mem_map.mp hl
    exact hG b hb
  · have I3 : Inv X pins σ H1 { s2 with heap := h' } := I2.kept (t' := s2.toks) hk
    have rit := rowsOf_it as s2.heap.objs.size G
    rw [l1] at hz hTI hTO ⊢
    have hTI' : TupO h' (s2.heap.objs.size + as.length) ((List.range' s2.heap.objs.size as.length).map Value.ref).toArray := by
      rw [← rit]
      exact hTI
    refine ⟨_, fpN s2.heap.objs.size as.length, _, _, H1, rfl, I3, turnN lt h0 h6, ⟨_, _, _, .inl rfl, hz, hTI', hTO, by simp, fun m a ea => ?_⟩, fun c hc => ?_, q⟩
    · have er : (rowsAt s2.heap.objs.size (as.map fun b => (b, G b)))[m]? = some ⟨s2.heap.objs.size + m, a, G a⟩ := by
        rw [rowsAt_get, List.getElem?_map, ea]
        rfl
      have := (hi m _ er).1
      rw [if_neg (Nat.not_lt_zero _)] at this
      exact this
    · have hle : s2.heap.objs.size ≤ c := (fp_mem.mp hc).1
      exact I2.fpOk hle (I2.hok.fresh hle)

theorem walk_zipN {K : PySem.W.Frag} {as : List Addr} {rows : Nat → List V} {n : Nat} (h0 : 0 < as.length) (hr : ∀ i, i < as.length → (rows i).length = n) :
    Walk (ItzN K as) n (fun H => ∀ (i : Nat) a, as[i]? = some a → SqL K H a (rows i)) (fun i H v H' => ∃ T vs, v = .ref T ∧ H T = none ∧ H' = upd H T (.tup vs) ∧ vs.length = as.length ∧ ∀ (m : Nat) a, as[m]? = some a → vs[m]? = (rows m)[i]?) := by
  refine ⟨fun i H hi g a ha => ?_, fun H g => ?_, fun i H v H' hi g y => ?_⟩
  · obtain ⟨j, hj⟩ := List.mem_iff_getElem?.mp ha
    exact ⟨_, g j a hj, by rw [hr j (List.getElem?_eq_some_iff.mp hj).1]; exact hi⟩
  · have e : as[0]? = some as[0] := List.getElem?_eq_getElem h0
    refine ⟨_, _, e, fun b hb => ?_, g 0 _ e, by rw [hr 0 h0]; exact Nat.le_refl _⟩
    obtain ⟨j, hj⟩ := List.mem_iff_getElem?.mp hb
    exact ⟨_, g j b hj⟩
  · obtain ⟨T, vs, e1, e2, e3, e4, e5⟩ := y
    exact ⟨T, vs, e1, e2, e3, e4, fun m a ha => e5 m a _ ha (g m a ha)⟩
end Bz
/-! Part 7. Any value as data: its type; lists that are empty; comprehensions told by what each turn gives; fractions as data. -/
namespace Bw
open PySem PySem.Spec PyProof.Rows L2

theorem ifT {c : Prop} [Decidable c] {A B : Prop} (h : c) (a : A) : if c then A else B := by
  rw [if_pos h]
  exact a
theorem ifF {c : Prop} [Decidable c] {A B : Prop} (h : ¬ c) (b : B) : if c then A else B := by
  rw [if_neg h]
  exact b
/-! ### types -/
def tyD : PyData → String
  | .none => "NoneType"
  | .bool _ => "bool"
  | .int _ => "int"
  | .str _ => "str"
  | .list _ => "list"
  | .tuple _ => "tuple"
  | .dict _ => "dict"
theorem Dq.tyx {W : Addr → Prop} {H : Hp} {K : PySem.W.Frag} {v : V} {d : PyData} (h : Dq W H v d) : TyX K H v (.type (tyD d)) := by
  cases h with
  | non => exact .base .non
  | bl b => exact .base (.bl b)
  | int i => exact .base (.int i)
  | str x => exact .base (.str x)
  | lst _ e _ => exact .base (.lst e)
  | tup _ e _ => exact .base (.tup e)
  | dct _ e _ => exact .base (.dK e)
def isTup : PyData → Bool
  | .tuple _ => true
  | _ => false
def isInt : PyData → Bool
  | .int _ => true
  | .bool _ => true
  | _ => false
def isBl : PyData → Bool
  | .bool _ => true
  | _ => false
def isStr : PyData → Bool
  | .str _ => true
  | _ => false
theorem kit_tup (d : PyData) : kitB (tyD d) "tuple" = some (isTup d) := by
  cases d <;> (simp only [tyD, isTup]; decide +kernel)
theorem kit_int (d : PyData) : kitB (tyD d) "int" = some (isInt d) := by
  cases d <;> (simp only [tyD, isInt]; decide +kernel)
theorem kit_bool (d : PyData) : kitB (tyD d) "bool" = some (isBl d) := by
  cases d <;> (simp only [tyD, isBl]; decide +kernel)
theorem kit_str (d : PyData) : kitB (tyD d) "str" = some (isStr d) := by
  cases d <;> (simp only [tyD, isStr]; decide +kernel)
/-- isinstance(v, T), v any value that is data -/
def rIsD : List V → Hp → VK → Prop := fun xs H Q => ∃ (W : Addr → Prop) (v : V) (d : PyData) (n : String) (b : Bool), xs = [v, .ty n] ∧ Dq W H v d ∧ kitB (tyD d) n = some b ∧ Q (.bl b) H
theorem call_isD {X : Cx} : CallR X (.builtin "isinstance") rIsD := by
  intro pins s σ H xs us Q I r h
  obtain ⟨W, v, d, n, b, rfl, hd, hk, q⟩ := h
  exact call_isi pins s σ H _ us Q I r ⟨v, .ty n, _, _, b, rfl, .ty n, hd.tyx, kit_ty hk, q⟩

/-! ### a list and [] -/
def rNil (K : PySem.W.Frag) (neg : Bool) : R2 := fun x y H Q => ∃ a b xs, x = .ref a ∧ y = .ref b ∧ SqL K H a xs ∧ SqL K H b [] ∧ Q (.bl (if neg then !xs.isEmpty else xs.isEmpty)) H
theorem op_eqNil {X : Cx} (hu : X.A.units + 64 < cLine) : OpR X (compareOp .Eq) (rNil X.K false) := by
  intro pins s σ H x y v u Q I rx ry h
  obtain ⟨a, b, xs, rfl, rfl, ha, hb, q⟩ := h
  obtain rfl : v = Value.ref a := rx
  obtain rfl : u = Value.ref b := ry
  obtain ⟨its, rv, p1, _⟩ := I.list ha
  obtain ⟨its2, rv2, p2, _⟩ := I.list hb
  cases rv2
  cases xs with
  | nil =>
    cases rv
    exact SeqAt.eq_listAt (e := fun _ => true) p1.isList p2.isList rfl (by omega) (fun j h1 _ => absurd h1 (Nat.not_lt_zero j)) ⟨.bl true, H, I, rfl, q⟩
  | cons z zs =>
    cases rv with
    | cons r t => exact SeqAt.eq_list_lengthsAt p1.isList p2.isList (by simp) (by omega) ⟨.bl false, H, I, rfl, q⟩
/-- a tuple and () -/
def rNilT (K : PySem.W.Frag) : R2 := fun x y H Q => ∃ a b xs, x = .ref a ∧ y = .ref b ∧ SqT K H a xs ∧ SqT K H b [] ∧ Q (.bl xs.isEmpty) H
theorem op_eqNilT {X : Cx} (hu : X.A.units + 64 < cLine) : OpR X (compareOp .Eq) (rNilT X.K) := by
  intro pins s σ H x y v u Q I rx ry h
  obtain ⟨a, b, xs, rfl, rfl, ha, hb, q⟩ := h
  obtain rfl : v = Value.ref a := rx
  obtain rfl : u = Value.ref b := ry
  obtain ⟨its, rv, p1, _⟩ := I.tuple ha
  obtain ⟨its2, rv2, p2, _⟩ := I.tuple hb
  cases rv2
  refine SeqAt.eq_tupleAt (e := fun _ => true) p1 p2 (by omega) (fun j h1 h2 => absurd h2 (Nat.not_lt_zero j)) ⟨.bl xs.isEmpty, H, I, ?_, q⟩
  cases xs with
  | nil => cases rv; rfl
  | cons z zs =>
    cases rv with
    | cons r t =>
      show Value.bool _ = Value.bool _
      simp

/-! ### comprehensions -/
theorem Kp.D {W : Addr → Prop} {H H' : Hp} {D : Addr} {o : HO} (k : Kp W H H') : Kp (fun a => W a ∨ a = D) H (L2.upd H' D o) := fun a u n e => by
  rw [upd_ne (fun z => n (.inr z))]
  exact k a u (fun z => n (.inl z)) e
/-- each turn gives one value -/
theorem lc_rel {J : It} {n : Nat} {G : Hp → Prop} {Y : Nat → Hp → V → Hp → Prop} (w : Walk J n G Y) {g : TG} {te : TE} {vs : List Nat} {σ : L2.St} {H1 : Hp} {D : Addr} {Qd : Hp → Prop} (W : Addr → Prop) (R : Hp → Nat → V → Prop)
    (st : ∀ H H' i v, Kp (fun a => W a ∨ a = D) H H' → R H i v → R H' i v) (nD : H1 D = none) (hW : ∀ a, W a → H1 a ≠ none) (hn : n ≤ 1000) (hG : ∀ H, Kp W H1 H → G H)
    (hs : ∀ (i : Nat) (x : V) (H H' : Hp) (Q : VK), i < n → Kp W H1 H → H D ≠ none → Y i H x H' → (∀ y H4, Kp W H H4 → R H4 i y → Q y H4) → g x (wipe σ vs) H' fun σ2 H2 => wipe σ2 vs = wipe σ vs ∧ te σ2 H2 Q)
    (hd : ∀ H acc, Kp W H1 H → H D = some (.lst acc) → acc.length = n → (∀ i v, acc[i]? = some v → R H i v) → Qd H) :
    ∃ W : Nat → Nat → Hp → Prop, (∃ m, W 0 m (upd H1 D (.lst []))) ∧ ∀ i m H, W i m H →
      (J.stop i H ∧ Qd H) ∨ (J.go i H ∧ ∃ Nx : Hp → Prop, (∀ H', Nx H' → ∃ m', m' < m ∧ W (i + 1) m' H') ∧ ∀ x H', J.yld i H x H' → g x (wipe σ vs) H' fun σ2 H2 => wipe σ2 vs = wipe σ vs ∧ tYes σ2 H2 fun b H3 =>
        if b = true then te σ2 H3 fun y H4 => ∃ acc, H4 D = some (.lst acc) ∧ acc.length < sizeLine ∧ Nx (upd H4 D (.lst (acc ++ [y]))) else Nx H3) := by
  have wD : ¬ W D := fun z => hW D z nD
  refine lc_it w (fun i H => Kp W H1 H ∧ ∃ acc, H D = some (.lst acc) ∧ acc.length = i ∧ ∀ j v, acc[j]? = some v → R H j v) ⟨(Kp.refl _).upd nD, [], upd_same, rfl, fun j v e => by simp at e⟩ (fun i H _ p => hG H p.1) ?_ ?_
  · rintro i x H H' hi ⟨k, acc, eD, hl, ha⟩ y
    refine hs i x H H' _ hi k (by rw [eD]; exact fun z => nomatch z) y fun v H4 k4 r => ?_
    refine ⟨acc, k4 _ _ wD eD, sz63' (by omega), (k.trans k4).upd nD, acc ++ [v], upd_same, by rw [List.length_append, hl]; rfl, fun j u e => ?_⟩
    rw [List.getElem?_append] at e
    split at e
    · exact st _ _ _ _ (k4.D) (ha j u e)
    · have hj : j - acc.length = 0 := by
        cases q : j - acc.length with
        | zero => rfl
        | succ m =>
          rw [q] at e
          simp at e
      have hj2 : j = i := by omega
      rw [hj] at e
      obtain rfl : v = u := by simpa using e
      rw [hj2]
      exact st _ _ _ _ ((Kp.refl _).D) r
  · rintro H ⟨k, acc, eD, hl, ha⟩
    exact hd H acc k eD hl ha
theorem bls_of : ∀ {acc : List V} {bs : List Bool}, acc.length = bs.length → (∀ (i : Nat) v, acc[i]? = some v → ∃ b, v = .bl b ∧ bs[i]? = some b) → acc = bs.map V.bl
  | [], [], _, _ => rfl
  | [], _ :: _, h, _ => by simp at h
  | _ :: _, [], h, _ => by simp at h
  | v :: acc, b :: bs, h, k => by
    obtain ⟨b', rfl, e⟩ := k 0 v rfl
    have e' : b = b' := by simpa using e
    subst e'
    rw [bls_of (acc := acc) (bs := bs) (by simpa using h) fun i v e => k (i + 1) v e]
    rfl
theorem dqAll_of {W : Addr → Prop} {H : Hp} : ∀ {acc : List V} {ds : List PyData}, acc.length = ds.length → (∀ (i : Nat) v, acc[i]? = some v → ∃ d, ds[i]? = some d ∧ Dq W H v d) → DqAll W H acc ds
  | [], [], _, _ => .nil
  | [], _ :: _, h, _ => by simp at h
  | _ :: _, [], h, _ => by simp at h
  | v :: acc, d :: ds, h, k => by
    obtain ⟨d', e, hd⟩ := k 0 v rfl
    have e' : d = d' := by simpa using e
    subst e'
    exact .cons hd (dqAll_of (by simpa using h) fun i v e => k (i + 1) v e)
theorem refs_of {P : Nat → Addr → Prop} : ∀ {acc : List V}, (∀ (i : Nat) v, acc[i]? = some v → ∃ l, v = .ref l ∧ P i l) → ∃ ls : List Addr, acc = ls.map V.ref ∧ ∀ (i : Nat) l, ls[i]? = some l → P i l := by
  intro acc
  induction acc generalizing P with
  | nil => exact fun _ => ⟨[], rfl, fun i l e => by simp at e⟩
  | cons v acc ih =>
    intro h
    obtain ⟨l, rfl, p⟩ := h 0 v rfl
    obtain ⟨ls, rfl, k⟩ := ih (P := fun i => P (i + 1)) fun i v e => h (i + 1) v e
    refine ⟨l :: ls, rfl, fun i a e => ?_⟩
    cases i with
    | zero =>
      have : l = a := by simpa using e
      rw [← this]
      exact p
    | succ i => exact k i a e
/-- a list told place by place -/
theorem list_of {n : Nat} {f : Nat → V} {acc : List V} (hl : acc.length = n) (h : ∀ (i : Nat) v, acc[i]? = some v → v = f i) : acc = (List.range n).map f := by
  apply List.ext_getElem?
  intro i
  by_cases c : i < n
  · have e : acc[i]? = some acc[i] := List.getElem?_eq_getElem (by omega)
    rw [e, h i _ e, List.getElem?_map, List.getElem?_range c]
    rfl
  · rw [List.getElem?_eq_none (by omega), List.getElem?_eq_none (by rw [List.length_map, List.length_range]; omega)]
theorem DqAll.get {W : Addr → Prop} {H : Hp} {xs : List V} {ds : List PyData} (h : DqAll W H xs ds) {i : Nat} {v : V} (e : xs[i]? = some v) : ∃ d, ds[i]? = some d ∧ Dq W H v d := h.at e
/-- the things that a test lets, by name -/
theorem lc_filt {J : It} {n : Nat} {G : Hp → Prop} {Y : Nat → Hp → V → Hp → Prop} (w : Walk J n G Y) {tt : TT} {vs : List Nat} {σ : L2.St} {H1 : Hp} {D : Addr} {jx : Nat} {Qd : Hp → Prop} (P : Nat → Prop)
    (nD : H1 D = none) (hn : n ≤ 1000) (hj : ∀ x : V, (wipe σ vs).set jx (some x) = (wipe σ vs).set jx (some x) → ((wipe σ vs).set jx (some x))[jx]? = some (some x)) (hw : ∀ x : V, wipe ((wipe σ vs).set jx (some x)) vs = wipe σ vs)
    (hG : ∀ H, Same H1 H → G H) (hY : ∀ i H x H', i < n → G H → Y i H x H' → H' = H)
    (hs : ∀ (i : Nat) (x : V) (H : Hp) (T : Bool → Hp → Prop), i < n → Same H1 H → H D ≠ none → Y i H x H → (∀ b H3, (b = true ↔ P i) → Same H H3 → T b H3) → tt ((wipe σ vs).set jx (some x)) H T)
    (hd : ∀ H acc, Same H1 H → H D = some (.lst acc) → (acc = [] ↔ ∀ i, i < n → ¬ P i) → Qd H) :
    ∃ W : Nat → Nat → Hp → Prop, (∃ m, W 0 m (upd H1 D (.lst []))) ∧ ∀ i m H, W i m H →
      (J.stop i H ∧ Qd H) ∨ (J.go i H ∧ ∃ Nx : Hp → Prop, (∀ H', Nx H' → ∃ m', m' < m ∧ W (i + 1) m' H') ∧ ∀ x H', J.yld i H x H' → gName jx x (wipe σ vs) H' fun σ2 H2 => wipe σ2 vs = wipe σ vs ∧ tt σ2 H2 fun b H3 =>
        if b = true then tVar jx σ2 H3 fun y H4 => ∃ acc, H4 D = some (.lst acc) ∧ acc.length < sizeLine ∧ Nx (upd H4 D (.lst (acc ++ [y]))) else Nx H3) := by
  refine lc_it w (fun i H => Same H1 H ∧ ∃ acc, H D = some (.lst acc) ∧ acc.length ≤ i ∧ (acc = [] ↔ ∀ j, j < i → ¬ P j)) ⟨same_new nD, [], upd_same, Nat.le_refl _, by simp⟩ (fun i H _ p => hG H p.1) ?_ ?_
  · rintro i x H H' hi ⟨k, acc, eD, hl, ha⟩ y
    obtain rfl := hY i H x H' hi (hG H k) y
    refine ⟨hw x, hs i x _ _ hi k (by rw [eD]; exact fun z => nomatch z) y fun b H3 hb k3 => ?_⟩
    have eD3 := k3 _ _ eD
    cases b with
    | true =>
      rw [if_pos rfl]
      refine ⟨x, hj x rfl, acc, eD3, sz63' (by omega), same_mut (k.trans k3) nD, acc ++ [x], upd_same, by rw [List.length_append]; simp; omega, ?_⟩
      constructor
      · intro z
        simp at z
      · intro z
        exact absurd (hb.mp rfl) (z i (by omega))
    | false =>
      rw [if_neg Bool.false_ne_true]
      have hb' : ¬ P i := fun z => Bool.false_ne_true (hb.mpr z)
      refine ⟨k.trans k3, acc, eD3, by omega, ha.trans ⟨fun z j hj => ?_, fun z j hj => z j (by omega)⟩⟩
      by_cases c : j = i
      · rw [c]
        exact hb'
      · exact z j (by omega)
  · rintro H ⟨k, acc, eD, hl, ha⟩
    exact hd H acc k eD ha

theorem same_tup {K : PySem.W.Frag} {a : Addr} {H H' : Hp} {xs : List V} (k : Same H H') (s : SqT K H a xs) : SqT K H' a xs := by
  rcases s with (e | ⟨o, e⟩) | e
  · exact .inl (.inl (k _ _ e))
  · exact .inl (.inr ⟨o, k _ _ e⟩)
  · exact .inr e
/-- the numbers below n that a test lets -/
theorem lc_filtR {n : Nat} {tt : TT} {vs : List Nat} {σ : L2.St} {H1 : Hp} {D : Addr} {jx : Nat} {Qd : Hp → Prop} (p : Nat → Bool) (nD : H1 D = none) (hn : n ≤ 1000)
    (hj : ∀ x : V, (wipe σ vs).set jx (some x) = (wipe σ vs).set jx (some x) → ((wipe σ vs).set jx (some x))[jx]? = some (some x)) (hw : ∀ x : V, wipe ((wipe σ vs).set jx (some x)) vs = wipe σ vs)
    (hs : ∀ (i : Nat) (H : Hp) (T : Bool → Hp → Prop), i < n → Same H1 H → H D ≠ none → (∀ H3, Same H H3 → T (p i) H3) → tt ((wipe σ vs).set jx (some (.int i))) H T)
    (hd : ∀ H, Same H1 H → H D = some (.lst (((List.range n).filter p).map fun i : Nat => V.int i)) → Qd H) :
    ∃ W : Nat → Nat → Hp → Prop, (∃ m, W 0 m (upd H1 D (.lst []))) ∧ ∀ i m H, W i m H →
      ((Itr 0 n).stop i H ∧ Qd H) ∨ ((Itr 0 n).go i H ∧ ∃ Nx : Hp → Prop, (∀ H', Nx H' → ∃ m', m' < m ∧ W (i + 1) m' H') ∧ ∀ x H', (Itr 0 n).yld i H x H' → gName jx x (wipe σ vs) H' fun σ2 H2 => wipe σ2 vs = wipe σ vs ∧ tt σ2 H2 fun b H3 =>
        if b = true then tVar jx σ2 H3 fun y H4 => ∃ acc, H4 D = some (.lst acc) ∧ acc.length < sizeLine ∧ Nx (upd H4 D (.lst (acc ++ [y]))) else Nx H3) := by
  refine lc_it (walk_range (lo := 0) (n := n)) (fun i H => Same H1 H ∧ H D = some (.lst (((List.range i).filter p).map fun i : Nat => V.int i))) ⟨same_new nD, upd_same⟩ (fun i H _ p => trivial) ?_ (fun H ⟨s, e⟩ => hd H s e)
  rintro i x H H' hi ⟨s, eD⟩ ⟨rfl, rfl⟩
  have e0 : (0 : Int) + ((i : Nat) : Int) = ((i : Nat) : Int) := by omega
  refine ⟨hw _, ?_⟩
  dsimp only
  rw [e0]
  refine hs i _ _ hi s (by rw [eD]; exact fun z => nomatch z) fun H3 s3 => ?_
  have eD3 := s3 _ _ eD
  have er : (List.range (i + 1)).filter p = (List.range i).filter p ++ (if p i then [i] else []) := by
    rw [List.range_succ, List.filter_append]
    congr 1
    simp [List.filter_cons]
  cases hp : p i with
  | true =>
    rw [if_pos rfl]
    refine ⟨_, hj _ rfl, _, eD3, ?_, same_mut (s.trans s3) nD, ?_⟩
    · rw [List.length_map]
      have h1 := List.length_filter_le p (List.range i)
      rw [List.length_range] at h1
      exact sz63' (by omega)
    · rw [upd_same, er, hp, List.map_append]
      rfl
  | false =>
    rw [if_neg Bool.false_ne_true]
    refine ⟨s.trans s3, ?_⟩
    rw [eD3, er, hp]
    simp
theorem inV_nat (t : Nat) : ∀ S : List Nat, inV (.int t) (S.map fun i : Nat => V.int i) = decide (t ∈ S)
  | [] => rfl
  | a :: S => by
    have h : inV (.int t) ((a :: S).map fun i : Nat => V.int i) = (eqV (.int a) (.int t) || inV (.int t) (S.map fun i : Nat => V.int i)) := rfl
    rw [h, inV_nat t S]
    have h2 : eqV (.int (a : Int)) (.int (t : Int)) = decide ((a : Int) = t) := by
      unfold eqV
      simp
      try rfl
    rw [h2, ← Bool.decide_or]
    refine decide_eq_decide.mpr ⟨fun z => ?_, fun z => ?_⟩
    · rcases z with z | z
      · have : t = a := by omega
        rw [this]
        exact List.mem_cons_self
      · exact List.mem_cons_of_mem _ z
    · rcases List.mem_cons.mp z with z | z
      · exact .inl (by omega)
      · exact .inr z
theorem flat_nat (S : List Nat) : (S.map fun i : Nat => V.int i).all flatV = true := by
  rw [List.all_map, List.all_eq_true]
  exact fun _ _ => rfl
/-! ### fractions -/
def frD (q : Rat) : PyData := .tuple [.int q.num, .int q.den]
/-- the fraction q, any tuple that is read -/
def FrR (K : PySem.W.Frag) (H : Hp) (v : V) (q : Rat) : Prop := ∃ a, v = .ref a ∧ SqT K H a [.int q.num, .int q.den]
theorem Dq.tupI {W : Addr → Prop} {H : Hp} {v : V} {ds : List PyData} (h : Dq W H v (.tuple ds)) : ∃ a xs, v = .ref a ∧ ¬ W a ∧ H a = some (.tup xs) ∧ DqAll W H xs ds := by
  cases h with
  | tup n e h => exact ⟨_, _, rfl, n, e, h⟩
theorem Dq.intI {W : Addr → Prop} {H : Hp} {v : V} {i : Int} (h : Dq W H v (.int i)) : v = .int i := by
  cases h
  rfl
theorem DqAll.two {W : Addr → Prop} {H : Hp} {xs : List V} {d e : PyData} (h : DqAll W H xs [d, e]) : ∃ x y, xs = [x, y] ∧ Dq W H x d ∧ Dq W H y e := by
  cases h with
  | cons h1 t =>
    cases t with
    | cons h2 t =>
      cases t
      exact ⟨_, _, rfl, h1, h2⟩
theorem Dq.frI {W : Addr → Prop} {H : Hp} {v : V} {q : Rat} (h : Dq W H v (frD q)) : ∃ a, v = .ref a ∧ ¬ W a ∧ H a = some (.tup [.int q.num, .int q.den]) := by
  obtain ⟨a, xs, rfl, n, e, h⟩ := h.tupI
  obtain ⟨x, y, rfl, h1, h2⟩ := h.two
  rw [h1.intI, h2.intI] at e
  exact ⟨a, rfl, n, e⟩
theorem Dq.fr {W : Addr → Prop} {H : Hp} {v : V} {q : Rat} {K : PySem.W.Frag} (h : Dq W H v (frD q)) : FrR K H v q := by
  obtain ⟨a, rfl, _, e⟩ := h.frI
  exact ⟨a, rfl, .of e⟩
theorem fr_dq {W : Addr → Prop} {H : Hp} {a : Addr} {q : Rat} (n : ¬ W a) (e : H a = some (.tup [.int q.num, .int q.den])) : Dq W H (.ref a) (frD q) := .tup n e (.cons (.int _) (.cons (.int _) .nil))
theorem FrR.same {K : PySem.W.Frag} {H H' : Hp} {v : V} {q : Rat} (s : Same H H') (h : FrR K H v q) : FrR K H' v q := by
  obtain ⟨a, rfl, h⟩ := h
  exact ⟨a, rfl, same_tup s h⟩
/-- the frD of q tells q -/
theorem frD_inj {p q : Rat} (h : frD p = frD q) : p = q := by
  unfold frD at h
  simp only [PyData.tuple.injEq, List.cons.injEq, PyData.int.injEq, and_true] at h
  obtain ⟨h1, h2⟩ := h
  exact Rat.ext h1 (by omega)

/-! ### sizes of data -/
mutual
def Bd (n : Nat) : PyData → Prop
  | .int i => i.natAbs < 2 ^ n
  | .list xs => BdAll n xs
  | .tuple xs => BdAll n xs
  | _ => True
def BdAll (n : Nat) : List PyData → Prop
  | [] => True
  | d :: ds => Bd n d ∧ BdAll n ds
end
theorem bdAll_iff {n : Nat} : ∀ {ds : List PyData}, BdAll n ds ↔ ∀ d ∈ ds, Bd n d
  | [] => by simp [BdAll]
  | d :: ds => by simp [BdAll, bdAll_iff]
theorem bd_fr {n : Nat} {q : Rat} : Bd n (frD q) ↔ Bq.Sz n q := by
  simp [frD, Bd, BdAll, Bq.Sz]
end Bw
/-! Part 8. Fractions, rows, tables, walks among all data; what leads where. Plain mathematics. -/
namespace Bw
open PySem

def isNum : PyData → Bool
  | .int _ => true
  | _ => false
def isFr : PyData → Bool
  | .tuple [.int a, .int b] => decide (0 < b) && decide (Nat.gcd a.natAbs b.natAbs = 1)
  | _ => false
def isFr0 : PyData → Bool
  | .tuple [.int a, .int b] => decide (0 < b) && decide (Nat.gcd a.natAbs b.natAbs = 1) && decide (0 ≤ a)
  | _ => false
def isRow (k : Nat) : PyData → Bool
  | .tuple ds => decide (ds.length = k) && ds.all isFr0
  | _ => false
def isTable : PyData → Bool
  | .tuple ds => decide (1 ≤ ds.length ∧ ds.length ≤ 6) && ds.all (isRow ds.length)
  | _ => false
def rowD (r : List Rat) : PyData := .tuple (r.map frD)
def tabD (m : List (List Rat)) : PyData := .tuple (m.map rowD)
/-- a table of 1 to 6 places -/
structure Tab (m : List (List Rat)) : Prop where
  l1 : 1 ≤ m.length
  l6 : m.length ≤ 6
  rows : ∀ r ∈ m, r.length = m.length
  nil : ∀ r ∈ m, ∀ q ∈ r, 0 ≤ q

theorem isFr_iff {d : PyData} : isFr d = true ↔ ∃ q, d = frD q := by
  constructor
  · intro h
    unfold isFr at h
    split at h
    · rename_i a b
      simp only [Bool.and_eq_true, decide_eq_true_eq] at h
      obtain ⟨q, rfl, rfl⟩ := (Bq.low_iff h.1).mp h.2
      exact ⟨q, rfl⟩
    · cases h
  · rintro ⟨q, rfl⟩
    have h1 := Bq.den_pos q
    have h2 := (Bq.low_iff (a := q.num) h1).mpr ⟨q, rfl, rfl⟩
    unfold isFr frD
    simp only [h1, decide_true, Bool.true_and, decide_eq_true_eq]
    exact h2
theorem isFr0_iff {d : PyData} : isFr0 d = true ↔ ∃ q : Rat, d = frD q ∧ 0 ≤ q := by
  constructor
  · intro h
    unfold isFr0 at h
    split at h
    · rename_i a b
      simp only [Bool.and_eq_true, decide_eq_true_eq] at h
      obtain ⟨q, rfl, rfl⟩ := (Bq.low_iff h.1.1).mp h.1.2
      exact ⟨q, rfl, Bq.num_nonneg.mp h.2⟩
    · cases h
  · rintro ⟨q, rfl, h⟩
    have h1 := Bq.den_pos q
    have h2 := (Bq.low_iff (a := q.num) h1).mpr ⟨q, rfl, rfl⟩
    unfold isFr0 frD
    simp only [h1, decide_true, Bool.true_and, Bool.and_eq_true, decide_eq_true_eq]
    exact ⟨h2, Bq.num_nonneg.mpr h⟩
theorem all_fr0 : ∀ {ds : List PyData}, ds.all isFr0 = true → ∃ r : List Rat, ds = r.map frD ∧ ∀ q ∈ r, 0 ≤ q
  | [], _ => ⟨[], rfl, fun q h => by simp at h⟩
  | d :: ds, h => by
    rw [List.all_cons, Bool.and_eq_true] at h
    obtain ⟨q, rfl, h0⟩ := isFr0_iff.mp h.1
    obtain ⟨r, rfl, hr⟩ := all_fr0 h.2
    exact ⟨q :: r, rfl, fun x hx => by
      rcases List.mem_cons.mp hx with rfl | hx
      · exact h0
      · exact hr x hx⟩
theorem isRow_iff {k : Nat} {d : PyData} : isRow k d = true ↔ ∃ r : List Rat, d = rowD r ∧ r.length = k ∧ ∀ q ∈ r, 0 ≤ q := by
  constructor
  · intro h
    unfold isRow at h
    split at h
    · rename_i ds
      simp only [Bool.and_eq_true, decide_eq_true_eq] at h
      obtain ⟨r, rfl, hr⟩ := all_fr0 h.2
      exact ⟨r, rfl, by rw [← h.1, List.length_map], hr⟩
    · cases h
  · rintro ⟨r, rfl, rfl, h⟩
    unfold isRow rowD
    simp only [List.length_map, decide_true, Bool.true_and, List.all_eq_true, List.mem_map]
    rintro d ⟨q, hq, rfl⟩
    exact isFr0_iff.mpr ⟨q, rfl, h q hq⟩
theorem all_row {k : Nat} : ∀ {ds : List PyData}, ds.all (isRow k) = true → ∃ m : List (List Rat), ds = m.map rowD ∧ ∀ r ∈ m, r.length = k ∧ ∀ q ∈ r, 0 ≤ q
  | [], _ => ⟨[], rfl, fun q h => by simp at h⟩
  | d :: ds, h => by
    rw [List.all_cons, Bool.and_eq_true] at h
    obtain ⟨r, rfl, hl, h0⟩ := isRow_iff.mp h.1
    obtain ⟨m, rfl, hm⟩ := all_row h.2
    exact ⟨r :: m, rfl, fun x hx => by
      rcases List.mem_cons.mp hx with rfl | hx
      · exact ⟨hl, h0⟩
      · exact hm x hx⟩
theorem isTable_iff {d : PyData} : isTable d = true ↔ ∃ m, d = tabD m ∧ Tab m := by
  constructor
  · intro h
    unfold isTable at h
    split at h
    · rename_i ds
      simp only [Bool.and_eq_true, decide_eq_true_eq] at h
      obtain ⟨m, e, hm⟩ := all_row h.2
      have hl : ds.length = m.length := by rw [e, List.length_map]
      refine ⟨m, by rw [e]; rfl, ⟨by omega, by omega, fun r hr => by rw [(hm r hr).1, hl], fun r hr => (hm r hr).2⟩⟩
    · cases h
  · rintro ⟨m, rfl, T⟩
    unfold isTable tabD
    simp only [List.length_map, Bool.and_eq_true, decide_eq_true_eq, List.all_eq_true, List.mem_map]
    refine ⟨⟨T.l1, T.l6⟩, ?_⟩
    rintro d ⟨r, hr, rfl⟩
    exact isRow_iff.mpr ⟨r, rfl, T.rows r hr, T.nil r hr⟩
theorem map_inj {α β : Type} {f : α → β} (h : ∀ a b, f a = f b → a = b) : ∀ {l m : List α}, l.map f = m.map f → l = m
  | [], [], _ => rfl
  | [], _ :: _, e => by simp at e
  | _ :: _, [], e => by simp at e
  | a :: l, b :: m, e => by
    simp only [List.map_cons, List.cons.injEq] at e
    rw [h a b e.1, map_inj h e.2]
theorem rowD_inj {r s : List Rat} (h : rowD r = rowD s) : r = s := by
  unfold rowD at h
  simp only [PyData.tuple.injEq] at h
  exact map_inj (fun _ _ => frD_inj) h
theorem tabD_inj {m n : List (List Rat)} (h : tabD m = tabD n) : m = n := by
  unfold tabD at h
  simp only [PyData.tuple.injEq] at h
  exact map_inj (fun _ _ => rowD_inj) h

theorem bd_row {n : Nat} {r : List Rat} : Bd n (rowD r) ↔ ∀ q ∈ r, Bq.Sz n q := by
  unfold rowD
  rw [Bd, bdAll_iff]
  constructor
  · intro h q hq
    exact bd_fr.mp (h _ (List.mem_map.mpr ⟨q, hq, rfl⟩))
  · rintro h d hd
    obtain ⟨q, hq, rfl⟩ := List.mem_map.mp hd
    exact bd_fr.mpr (h q hq)
theorem bd_tab {n : Nat} {m : List (List Rat)} : Bd n (tabD m) ↔ ∀ r ∈ m, ∀ q ∈ r, Bq.Sz n q := by
  unfold tabD
  rw [Bd, bdAll_iff]
  constructor
  · intro h r hr
    exact bd_row.mp (h _ (List.mem_map.mpr ⟨r, hr, rfl⟩))
  · rintro h d hd
    obtain ⟨r, hr, rfl⟩ := List.mem_map.mp hd
    exact bd_row.mpr (h r hr)
theorem map_some {α β : Type} {f : α → β} {l : List α} {i : Nat} {y : β} (h : (l.map f)[i]? = some y) : ∃ x, l[i]? = some x ∧ f x = y := by
  rw [List.getElem?_map] at h
  cases z : l[i]? with
  | none =>
    rw [z] at h
    cases h
  | some x =>
    rw [z] at h
    exact ⟨x, rfl, Option.some.inj h⟩
/-! ### what leads where -/
inductive Reach (E : Nat → Nat → Prop) (a : Nat) : Nat → Prop
  | refl : Reach E a a
  | step {b c : Nat} : Reach E a b → E b c → Reach E a c
theorem Reach.trans {E : Nat → Nat → Prop} {a b c : Nat} (h : Reach E a b) (k : Reach E b c) : Reach E a c := by
  induction k with
  | refl => exact h
  | step _ e ih => exact .step ih e
theorem Reach.one {E : Nat → Nat → Prop} {a b : Nat} (h : E a b) : Reach E a b := .step .refl h
theorem Reach.back {E : Nat → Nat → Prop} {a b : Nat} (h : Reach (fun x y => E y x) a b) : Reach E b a := by
  induction h with
  | refl => exact .refl
  | step _ e ih => exact (Reach.one (E := E) e).trans ih
theorem Reach.mono {E F : Nat → Nat → Prop} {a b : Nat} (m : ∀ x y, E x y → F x y) (h : Reach E a b) : Reach F a b := by
  induction h with
  | refl => exact .refl
  | step _ e ih => exact .step ih (m _ _ e)
/-- what has the start, only what it leads to, and all that this leads to, is all of that -/
theorem reach_of {E : Nat → Nat → Prop} {a : Nat} {S : Nat → Prop} (h0 : S a) (hs : ∀ x y, S x → E x y → S y) {b : Nat} (h : Reach E a b) : S b := by
  induction h with
  | refl => exact h0
  | step _ e ih => exact hs _ _ ih e
theorem nodup_len : ∀ (n : Nat) (l : List Nat), l.Nodup → (∀ x ∈ l, x < n) → l.length ≤ n ∧ (l.length = n → ∀ j, j < n → j ∈ l)
  | 0, l, _, h => by
    cases l with
    | nil => exact ⟨Nat.le_refl _, fun _ j hj => absurd hj (Nat.not_lt_zero j)⟩
    | cons a l => exact absurd (h a List.mem_cons_self) (Nat.not_lt_zero a)
  | n + 1, l, nd, h => by
    by_cases c : n ∈ l
    · have hl := List.length_erase_of_mem c
      have hp : 0 < l.length := List.length_pos_of_mem c
      obtain ⟨h1, h2⟩ := nodup_len n (l.erase n) (nd.erase n) fun x hx => by
        have h3 := h x (List.mem_of_mem_erase hx)
        have h4 : x ≠ n := fun e => by
          rw [e] at hx
          exact (List.Nodup.not_mem_erase nd) hx
        omega
      refine ⟨by omega, fun e j hj => ?_⟩
      by_cases c2 : j = n
      · rw [c2]
        exact c
      · exact List.mem_of_mem_erase (h2 (by omega) j (by omega))
    · obtain ⟨h1, h2⟩ := nodup_len n l nd fun x hx => by
        have h3 := h x hx
        have h4 : x ≠ n := fun e => c (by rw [← e]; exact hx)
        omega
      exact ⟨by omega, fun e => by omega⟩
/-- the chance from a to b is above 0 -/
def Ed (m : List (List Rat)) (a b : Nat) : Prop := ∃ r q, m[a]? = some r ∧ r[b]? = some q ∧ 0 < q
def Strong (m : List (List Rat)) : Prop := ∀ a b, a < m.length → b < m.length → Reach (Ed m) a b
def IsWalk (d : PyData) : Prop := ∃ m, d = tabD m ∧ Tab m ∧ Strong m ∧ ∀ r ∈ m, Bq.sumQ r = 1
theorem strong_iff {m : List (List Rat)} (h : 1 ≤ m.length) : Strong m ↔ (∀ j, j < m.length → Reach (Ed m) 0 j) ∧ ∀ j, j < m.length → Reach (fun x y => Ed m y x) 0 j := by
  constructor
  · intro s
    refine ⟨fun j hj => s 0 j (by omega) hj, fun j hj => ?_⟩
    exact Reach.back (E := fun x y => Ed m y x) (s j 0 hj (by omega))
  · rintro ⟨h1, h2⟩ a b ha hb
    exact (Reach.back (h2 a ha)).trans (h1 b hb)
/-- the chances above 0, as truths -/
def posB (m : List (List Rat)) (i j : Nat) : Bool := match m[i]? with
  | some r => match r[j]? with
    | some q => decide (0 < q)
    | none => false
  | none => false
def LE (n : Nat) (B : Nat → Nat → Bool) : Nat → Nat → Prop := fun x y => x < n ∧ y < n ∧ B x y = true
theorem posB_of {m : List (List Rat)} {i j : Nat} {r : List Rat} {q : Rat} (h : m[i]? = some r) (k : r[j]? = some q) : posB m i j = decide (0 < q) := by
  unfold posB
  rw [h]
  dsimp only
  rw [k]
theorem ed_iff {m : List (List Rat)} (T : Tab m) {a b : Nat} : Ed m a b ↔ LE m.length (posB m) a b := by
  constructor
  · rintro ⟨r, q, h1, h2, h3⟩
    have ha := (List.getElem?_eq_some_iff.mp h1).1
    have hb := (List.getElem?_eq_some_iff.mp h2).1
    rw [T.rows r (List.mem_of_getElem? h1)] at hb
    exact ⟨ha, hb, by rw [posB_of h1 h2]; exact decide_eq_true h3⟩
  · rintro ⟨h1, h2, h3⟩
    have e1 : m[a]? = some m[a] := List.getElem?_eq_getElem h1
    have hl := T.rows _ (List.mem_of_getElem? e1)
    have e2 : m[a][b]? = some (m[a][b]'(by omega)) := List.getElem?_eq_getElem (by omega)
    rw [posB_of e1 e2] at h3
    exact ⟨_, _, e1, e2, of_decide_eq_true h3⟩
theorem strong_by {m : List (List Rat)} (T : Tab m) : Strong m ↔ (∀ j, j < m.length → Reach (LE m.length (posB m)) 0 j) ∧ ∀ j, j < m.length → Reach (LE m.length fun x y => posB m y x) 0 j := by
  rw [strong_iff T.l1]
  refine and_congr (forall_congr' fun j => imp_congr_right fun _ => ⟨Reach.mono fun x y e => (ed_iff T).mp e, Reach.mono fun x y e => (ed_iff T).mpr e⟩) (forall_congr' fun j => imp_congr_right fun _ => ⟨Reach.mono fun x y e => ?_, Reach.mono fun x y e => ?_⟩)
  · obtain ⟨h1, h2, h3⟩ := (ed_iff T).mp e
    exact ⟨h2, h1, h3⟩
  · obtain ⟨h1, h2, h3⟩ := e
    exact (ed_iff T).mpr ⟨h2, h1, h3⟩
theorem Ed.lt {m : List (List Rat)} (T : Tab m) {a b : Nat} (h : Ed m a b) : a < m.length ∧ b < m.length := by
  obtain ⟨r, q, h1, h2, _⟩ := h
  have ha := (List.getElem?_eq_some_iff.mp h1).1
  have hb := (List.getElem?_eq_some_iff.mp h2).1
  rw [T.rows r (List.mem_of_getElem? h1)] at hb
  exact ⟨ha, hb⟩
end Bw
/-! Part 9. The rules within a comprehension's element, where the frame is known by name. -/
namespace Bw
open PySem PySem.Spec PyProof.Rows L2
section
variable {X : Cx} {K : PySem.W.Frag} (h : X.K = K)
include h
theorem call_lenK : CallR X (.builtin "len") (fun xs H Q => ∃ p ys, xs = [.ref p] ∧ (SqL K H p ys ∨ SqT K H p ys) ∧ Q (.int ys.length) H) := by
  subst h
  exact call_len_seq
theorem ix_listK : IxR X (rIxL K) := by
  subst h
  exact ix_list
theorem ix_tupK : IxR X (rIxT K) := by
  subst h
  exact ix_tup
theorem ix_seqK : IxR X (rIx K) := by
  subst h
  exact ix_seq
theorem cr_allK (hc : X.calm = true) : CallR X (.builtin "all") (rAll K) := by
  subst h
  exact cr_all hc
theorem call_tupK : CallR X (.type "tuple") (fun xs H Q => ∃ p ys, xs = [.ref p] ∧ ((SqL K H p ys ∧ ∀ l, H l = none → Q (.ref l) (upd H l (.tup ys))) ∨ (SqT K H p ys ∧ Q (.ref p) H))) := by
  subst h
  exact call_tuple_of
theorem call_lstK : CallR X (.type "list") (fun xs H Q => ∃ p ys, xs = [.ref p] ∧ (SqL K H p ys ∨ SqT K H p ys) ∧ ∀ l, H l = none → Q (.ref l) (upd H l (.lst ys))) := by
  subst h
  exact call_list_of
theorem op_inK : OpR X (compareOp .In) (rIn K false) := by
  subst h
  exact op_in_seq
theorem op_notInK : OpR X (compareOp .NotIn) (rIn K true) := by
  subst h
  exact op_notIn_seq
theorem op_catAK : OpR X (binaryOp .Add) (rCatA K) := by
  subst h
  exact op_catA
theorem op_repTK : OpR X (binaryOp .Mult) (rRepT K) := by
  subst h
  exact op_repT
theorem sl_tupAK : SlR X (rSlA K) := by
  subst h
  exact sl_tupA
theorem sl_listK : SlR X (rSlL K) := by
  subst h
  exact sl_list
theorem op_eqDK (hu : X.A.units + 64 < cLine) : OpR X (compareOp .Eq) (rEqD K) := by
  subst h
  exact op_eqD hu
theorem op_neDK (hu : X.A.units + 64 < cLine) : OpR X (compareOp .NotEq) (rNeD K) := by
  subst h
  exact op_neD hu
theorem pi_tupK {tg l : Expr} {tl : TE} (hl : PE X l tl) : PI X tg l (iTup K tl) := by
  subst h
  exact pi_tup hl
theorem pi_listK {tg l : Expr} {tl : TE} (hl : PE X l tl) : PI X tg l (iList K tl) := by
  subst h
  exact pi_list hl
end

/-! ### one fraction compared with another -/
theorem fr_dp {K : PySem.W.Frag} {H : Hp} {v : V} {q : Rat} (h : FrR K H v q) : Dp K H v (frD q) := by
  obtain ⟨a, rfl, h⟩ := h
  exact .tup h (.cons (.int _) (.cons (.int _) .nil))
theorem fr_shaped (q : Rat) : SeqAt.shaped (frD q) = true := by
  unfold SeqAt.shaped frD
  simp [PyData.canLay0, PyData.canLayAll0, PyData.depth, PyData.depthAll]
theorem fr_eqv (p q : Rat) : PyData.eqv (frD p) (frD q) = decide (p = q) := by
  unfold frD
  have h : (p = q) ↔ (p.num = q.num ∧ (p.den : Int) = q.den) := ⟨fun z => by rw [z]; exact ⟨rfl, rfl⟩, fun z => Rat.ext z.1 (by omega)⟩
  have e : PyData.eqv (.tuple [.int p.num, .int p.den]) (.tuple [.int q.num, .int q.den]) = (decide (p.num = q.num) && decide ((p.den : Int) = q.den)) := by
    simp [PyData.eqv, PyData.eqvAll]
    try rfl
  rw [e, ← Bool.decide_and]
  exact decide_eq_decide.mpr h.symm
end Bw
/-! The well of drawn numbers: what the law draws from. -/
namespace Kx
open PySem PySem.Spec PyProof.Rows L2 Bw

def topS (i : Nat) : Stmt := PySem.Challenge.pw_backwalks_k35_glasses_and_sighted_walks.main.body.getD i (.Pass ⟨0, 0, 0, 0⟩)

/-- the built-ins that the text calls are still those -/
structure Mb (mg : Str → Option Value) : Prop where
  int : mg "int" = none
  len : mg "len" = none
  abs : mg "abs" = none
  divmod : mg "divmod" = none
  range : mg "range" = none
  enumerate : mg "enumerate" = none
  isinstance : mg "isinstance" = none
  repr : mg "repr" = none
  tuple : mg "tuple" = none
  list : mg "list" = none
  all : mg "all" = none
  zip : mg "zip" = none
  str : mg "str" = none
  bool : mg "bool" = none
  set : mg "set" = none
  min : mg "min" = none
  max : mg "max" = none
  sorted : mg "sorted" = none

abbrev s_law_well : Stmt := topS 30
abbrev n_law_well : List Str := ["script", "salt", "blend", "cell"]
theorem c_law_well : FnScope n_law_well ["script", "salt"] (defScope s_law_well) :=
  ⟨rfl, rfl, rfl, by decide +kernel, rfl, by decide +kernel, by decide +kernel⟩

abbrev s_law_draw : Stmt := topS 31
abbrev n_law_draw : List Str := ["well", "limit", "left", "digit"]
theorem c_law_draw : FnScope n_law_draw ["well", "limit"] (defScope s_law_draw) :=
  ⟨rfl, rfl, rfl, by decide +kernel, rfl, by decide +kernel, by decide +kernel⟩

abbrev s_law_pick : Stmt := topS 32
abbrev n_law_pick : List Str := ["well", "some"]
theorem c_law_pick : FnScope n_law_pick ["well", "some"] (defScope s_law_pick) :=
  ⟨rfl, rfl, rfl, by decide +kernel, rfl, by decide +kernel, by decide +kernel⟩


/-- the well at w -/
def WellAt (w l : Addr) (H : Hp) : Prop := ∃ (st n : Int) (ns : List Int), H w = some (.lst [.ref l, .int st, .int n]) ∧ l ≠ w ∧
  H l = some (.lst (ns.map V.int)) ∧ ns.length ≤ 63
def IsWell (w : Addr) (H : Hp) : Prop := ∃ l : Addr, WellAt w l H
abbrev At (w : Addr) : Addr → Prop := fun a => a = w

section
variable {P : Program} {w : World} {K : PySem.W.Frag} {mg : Str → Option Value} {base : Heap}

def spWell (K : PySem.W.Frag) : Sp := fun vs H Q _ => ∃ (a : Addr) (ns : List Int) (salt : Int), vs = [.ref a, .int salt] ∧ SqL K H a (ns.map V.int) ∧ ns.length ≤ 63 ∧
  ∀ (H' : Hp) (w : Addr), H w = none → Same H H' → IsWell w H' → Q (.ref w) H'
theorem cut63 {ns : List Int} (h : ns.length ≤ 63) : cutV (ns.map V.int) none (some 63) = ns.map V.int := by
  unfold cutV
  rw [HT.sIx_none, show HT.sIx (ns.map V.int).length (ns.map V.int).length (some 63) = min 63 (ns.map V.int).length from HT.sIx_nat _ _ 63]
  rw [List.drop_zero, Nat.sub_zero, List.length_map]
  exact List.take_of_length_le (by rw [List.length_map]; omega)
theorem ok_well {f : Addr} {fd : FuncData} (F : Fun K "_law_well" "_law_well" s_law_well f fd) (M : Mb mg) : FnOk P w K mg base CX0 1 f fd ["script", "salt"] (spWell K) := by
  refine F.ok c_law_well (fun vs H Q E h => ?_) (fun cdv A outer s H vs Q E hr h => ?_)
  · obtain ⟨a, ns, salt, rfl, _⟩ := h
    rfl
  · obtain ⟨a, ns, salt, rfl, hS, hlen, q⟩ := h
    refine ⟨_, (pss_cons (ps_set (i := 2) c_law_well.nd rfl (.inl rfl) (pe_op op_add pe_int (pe_op op_mul pe_int (pv 1))))
 (pss_cons (ps_for PassesOwn.never rfl (pi_list (pe_slice sl_list (pv 0) po_none (po_some pe_int))) (pg_name (i := 3) c_law_well.nd rfl (.inl rfl))
 (pss_one (ps_set (i := 2) c_law_well.nd rfl (.inl rfl) (pe_op op_mod (pe_callTy call_int1 (by rfl) M.int (by decide +kernel) (pa_cons (pe_op op_add (pe_op op_add (pe_op op_mul (pv 2) pe_int) (pe_op op_mod (pe_callTy call_int1 (by rfl) M.int (by decide +kernel) (pa_cons (pv 3) pa_nil)) pe_int)) pe_int) pa_nil)) pe_int))))
 (pss_one (ps_ret (pe_lst (pa_cons (pe_lc (own := [("cell", 3)]) rfl c_law_well.nd (pi_list (pe_slice sl_list (pv 0) po_none (po_some pe_int))) (blkOk_by (own := [("cell", 3)]) (N := n_law_well) (sc := defScope s_law_well) (by decide +kernel)) (fun _ _ _ _ _ => (pg_name (i := 3) c_law_well.nd rfl (.inl rfl))) (fun _ _ _ _ _ => (pts_one (PW.pt (pw_or (pt_cmpR op_lt (pv 3) pe_int (nomark _)) (pw_or1 (pt_cmpR op_ge (pv 3) (pe_op op_pow pe_int pe_int) (nomark _))))))) (fun _ _ _ _ _ => (pe_callB (id := "abs") call_abs (by rfl) M.abs (by decide +kernel) (pa_cons (pv 3) pa_nil)))) (pa_cons (pv 2) (pa_cons pe_int pa_nil)))))))), ?_⟩
    refine ⟨_, rfl, _, _, rfl, rfl, .inl ⟨by decide, by decide⟩, _, _, rfl, rfl, ?_⟩
    -- for cell in script[:63]
    refine ⟨.ref a, rfl, 63, rfl, a, _, rfl, hS, fun c nc => ?_⟩
    rw [cut63 hlen]
    have s1 : Same H (upd H c (.lst (ns.map V.int))) := same_new nc
    refine ⟨c, rfl, ⟨_, .inl (.inl upd_same)⟩, for_list (K := K) (a := c) (xs := ns.map V.int)
      (fun i σ H' => ∃ (z : Int) (y : Option V), σ = [some (.ref a), some (.int salt), some (.int z), y] ∧ H' = upd H c (.lst (ns.map V.int)))
      ⟨_, none, rfl, rfl⟩ (fun i σ H' _ ⟨_, _, _, e⟩ => .inl (.inl (by rw [e]; exact upd_same))) ?_ ?_⟩
    · rintro i y σ H' hi ⟨z, y0, rfl, rfl⟩
      obtain ⟨x, hx, rfl⟩ := map_at hi
      refine ⟨_, rfl, _, _, rfl, rfl, .inr ⟨by decide, by decide⟩, ?_⟩
      refine ⟨_, rfl, .inl ⟨_, rfl, ?_⟩⟩
      refine ⟨_, _, rfl, rfl, (by show (0 : Int) < 2147483579; decide), ?_⟩
      refine ⟨_, _, rfl, rfl, _, _, rfl, rfl, .inl ⟨_, rfl, ?_⟩⟩
      exact ⟨_, _, rfl, rfl, (by show (0 : Int) < 2147483587; decide), _, _, rfl, rfl⟩
    · rintro σ H' ⟨z, y0, rfl, rfl⟩
      -- [[abs(cell) ..], stir, 0]
      refine ⟨.ref a, rfl, 63, rfl, a, _, rfl, s1.seq hS, fun c2 nc2 => ?_⟩
      rw [cut63 hlen]
      have s2 := s1.trans (same_new (o := .lst (ns.map V.int)) nc2)
      refine ⟨c2, rfl, ⟨_, .inl (.inl upd_same)⟩, fun D nD => ?_⟩
      refine lc_list (K := K) (a := c2) (xs := ns.map V.int)
        (fun i H' => ∃ ms : List Int, ms.length ≤ i ∧ H' D = some (.lst (ms.map V.int)) ∧ Same H H' ∧ H' c2 = some (.lst (ns.map V.int)))
        ⟨[], Nat.le_refl _, upd_same, s2.trans (same_new nD), ?_⟩ (fun i H' _ ⟨_, _, _, _, e⟩ => .inl (.inl e)) ?_ ?_
      · rw [upd_ne (ne_of_none upd_same nD)]
        exact upd_same
      · rintro i x H' hi ⟨ms, hm, eD, sm, e2⟩
        have hil : i < ns.length := by
          have := (List.getElem?_eq_some_iff.mp hi).1
          rwa [List.length_map] at this
        obtain ⟨x, hx, rfl⟩ := map_at hi
        refine ⟨rfl, ?_⟩
        have keepD : ∀ {y : V} {H1 : Hp}, H1 = H' → (∃ m, y = V.int m) → ∃ acc, H1 D = some (.lst acc) ∧ acc.length < sizeLine ∧
            ∃ ms : List Int, ms.length ≤ i + 1 ∧ (upd H1 D (.lst (acc ++ [y]))) D = some (.lst (ms.map V.int)) ∧ Same H (upd H1 D (.lst (acc ++ [y]))) ∧
              (upd H1 D (.lst (acc ++ [y]))) c2 = some (.lst (ns.map V.int)) := by
          rintro y H1 rfl ⟨m, rfl⟩
          refine ⟨_, eD, sz63' (by rw [List.length_map]; omega), ms ++ [m], by rw [List.length_append, List.length_singleton]; omega, ?_, ?_, ?_⟩
          · rw [upd_same, List.map_append]
            rfl
          · exact same_mut sm ((s2.free nD))
          · rw [upd_ne (ne_of_none upd_same nD)]
            exact e2
        have stay : ∃ ms : List Int, ms.length ≤ i + 1 ∧ H' D = some (.lst (ms.map V.int)) ∧ Same H H' ∧ H' c2 = some (.lst (ns.map V.int)) := ⟨ms, by omega, eD, sm, e2⟩
        refine ⟨_, rfl, _, _, rfl, rfl, _, rfl, ite2 (fun _ => ?_) (fun _ => ?_)⟩
        · refine iteT ?_
          exact ⟨_, rfl, _, rfl, keepD rfl ⟨_, rfl⟩⟩
        · refine ⟨_, rfl, _, _, rfl, rfl, ⟨by decide, by decide, by decide⟩, _, _, rfl, rfl, _, rfl, ite2 (fun _ => ?_) (fun _ => ?_)⟩
          · exact ⟨_, rfl, _, rfl, keepD rfl ⟨_, rfl⟩⟩
          · exact stay
      · rintro H' ⟨ms, hm, eD, sm, _⟩
        rw [List.length_map] at hm
        refine ⟨_, rfl, sz63 (by show 3 ≤ 1000; decide), fun v nv => ?_⟩
        have nDv : D ≠ v := ne_of_none eD nv
        refine q _ v (sm.free nv) (sm.trans (same_new nv)) ⟨D, _, _, ms, upd_same, nDv, ?_, by omega⟩
        rw [upd_ne nDv]
        exact eD

/-! ### a number is drawn -/
def spPickL : Sp := fun vs H Q _ => ∃ (w l : Addr) (limit : Int), vs = [.ref w, .int limit] ∧ 0 < limit ∧ limit < 1073741824 ∧ WellAt w l H ∧
  ∀ (H' : Hp) (d : Int) (l' : Addr), 0 ≤ d → d < limit → Kp (At w) H H' → WellAt w l' H' → (l' = l ∨ H l' = none) → Q (.int d) H'
def spPick : Sp := fun vs H Q _ => ∃ (w : Addr) (limit : Int), vs = [.ref w, .int limit] ∧ 0 < limit ∧ limit < 1073741824 ∧ IsWell w H ∧
  ∀ (H' : Hp) (d : Int), 0 ≤ d → d < limit → Kp (At w) H H' → IsWell w H' → Q (.int d) H'
theorem kp_free {w m : Addr} {H H' : Hp} (k : Kp (At w) H H') (h : H' m = none) (ne : m ≠ w) : H m = none := by
  cases e : H m with
  | none => rfl
  | some o =>
    rw [k m o ne e] at h
    cases h
/-- the same def under a weaker promise -/
theorem weaken {P : Program} {w : World} {K : PySem.W.Frag} {mg : Str → Option Value} {base : Heap} {CX : CXT} {k : Nat} {f : Addr} {fd : FuncData} {ps : List Str} {sp sp' : Sp} (F : FnOk P w K mg base CX k f fd ps sp)
    (h : ∀ vs H Q E, sp' vs H Q E → sp vs H Q E) : FnOk P w K mg base CX k f fd ps sp' :=
  ⟨fun vs H Q E z => F.len vs H Q E (h vs H Q E z), fun A outer s H args us vs Q E hr he hb hv hs => F.run A outer s H args us vs Q E hr he hb hv (h vs H Q E hs)⟩
theorem ints_lay : ∀ ns : List Int, PyData.canLayAll0 (ns.map PyData.int) = true
  | [] => by simp [PyData.canLayAll0]
  | n :: r => by simp [PyData.canLayAll0, PyData.canLay0, ints_lay r]
theorem ints_depth : ∀ ns : List Int, PyData.depthAll (ns.map PyData.int) = 0
  | [] => by simp [PyData.depthAll]
  | n :: r => by simp [PyData.depthAll, PyData.depth, ints_depth r]
theorem ints_shaped (ns : List Int) : SeqAt.shaped (.list (ns.map PyData.int)) = true := by
  unfold SeqAt.shaped
  have h1 : (PyData.list (ns.map PyData.int)).canLay0 = true := by
    simp only [PyData.canLay0]
    exact ints_lay ns
  have h2 : (PyData.list (ns.map PyData.int)).depth ≤ 64 := by
    simp only [PyData.depth]
    rw [ints_depth]
    omega
  rw [h1, decide_eq_true h2]
  rfl
theorem ints_dp {K : PySem.W.Frag} {H : Hp} : ∀ ns : List Int, DpAll K H (ns.map V.int) (ns.map PyData.int)
  | [] => .nil
  | n :: r => .cons (.int n) (ints_dp r)
theorem ints_nil (ns : List Int) : PyData.eqv (.list (ns.map PyData.int)) (.list []) = ns.isEmpty := by
  cases ns with
  | nil => decide +kernel
  | cons n r => simp [PyData.eqv, PyData.eqvAll]
theorem cutTail {n : Int} {ns : List Int} : cutV ((n :: ns).map V.int) (some 1) none = ns.map V.int := by
  unfold cutV
  rw [show HT.sIx ((n :: ns).map V.int).length 0 (some 1) = min 1 ((n :: ns).map V.int).length from HT.sIx_nat _ _ 1, HT.sIx_none]
  have e : min 1 ((n :: ns).map V.int).length = 1 := by
    rw [List.length_map, List.length_cons]
    omega
  rw [e]
  show List.take (((n :: ns).map V.int).length - 1) (ns.map V.int) = _
  exact List.take_of_length_le (by rw [List.length_map, List.length_map, List.length_cons]; omega)

theorem kp_new {w : Addr} {H : Hp} {p : Addr} {o : HO} (h : H p = none) : Kp (At w) H (upd H p o) := Kp.new h
theorem ok_pickL {f : Addr} {fd : FuncData} (F : Fun K "_law_draw" "_law_draw" s_law_draw f fd) (M : Mb mg) : FnOk P w K mg base CX0 1 f fd ["well", "limit"] spPickL := by
  refine F.ok c_law_draw (fun vs H Q E h => ?_) (fun cdv A outer s H vs Q E hr h => ?_)
  · obtain ⟨w, l, limit, rfl, _⟩ := h
    rfl
  · obtain ⟨w, l, limit, rfl, hl, hl2, ⟨st, n, ns, hw, hne, hL, hlen⟩, q⟩ := h
    have hu : (A.deeper (envOfC "_law_draw" (defScope s_law_draw) s.heap.objs.size f cdv)).units + 64 < cLine := hr.units
    refine ⟨_, (pss_cons (ps_if (pt_cmpR (op_neD hu) (pe_ix ix_list (pv 0) pe_int (fun _ _ => rfl)) (pe_lst pa_nil) (nomark _))
 (pss_cons (ps_asg (pe_callB call_divmodW (by rfl) M.divmod (by decide +kernel) (pa_cons (pe_ix ix_list (pe_ix ix_list (pv 0) pe_int (fun _ _ => rfl)) pe_int (fun _ _ => rfl)) (pa_cons (pv 1) pa_nil))) (pg_tup rfl (pgs_cons (pg_name (i := 2) c_law_draw.nd rfl (.inl rfl)) (pgs_cons (pg_name (i := 3) c_law_draw.nd rfl (.inl rfl)) pgs_nil))))
 (pss_cons (ps_asg (pe_op op_cat (pe_ifExp (pt_cmpR op_gt (pv 2) pe_int (nomark _)) (pe_lst (pa_cons (pv 2) pa_nil)) (pe_lst pa_nil)) (pe_slice sl_list (pe_ix ix_list (pv 0) pe_int (fun _ _ => rfl)) (po_some pe_int) po_none)) (pg_sub (pv 0) pe_int set_list))
 (pss_one (ps_ret (pv 3)))))
 pss_nil)
 (pss_cons (ps_asg (pe_op op_add (pe_ix ix_list (pv 0) pe_int (fun _ _ => rfl)) pe_int) (pg_sub (pv 0) pe_int set_list))
 (pss_cons (ps_asg (pe_op op_mod (pe_callTy call_int1 (by rfl) M.int (by decide +kernel) (pa_cons (pe_op op_add (pe_op op_add (pe_op op_mul (pe_ix ix_list (pv 0) pe_int (fun _ _ => rfl)) pe_int) (pe_op op_mul pe_int (pe_ix ix_list (pv 0) pe_int (fun _ _ => rfl)))) pe_int) pa_nil)) pe_int) (pg_sub (pv 0) pe_int set_list))
 (pss_one (ps_ret (pe_op op_mod (pe_callTy call_int1 (by rfl) M.int (by decide +kernel) (pa_cons (pe_op op_fdiv (pe_ix ix_list (pv 0) pe_int (fun _ _ => rfl)) pe_int) pa_nil)) (pv 1))))))), ?_⟩
    have a0 : ∀ {x y z : V}, atI [x, y, z] 0 = some x := fun {x y z} => rfl
    have a1 : ∀ {x y z : V}, atI [x, y, z] 1 = some y := fun {x y z} => rfl
    have a2 : ∀ {x y z : V}, atI [x, y, z] 2 = some z := fun {x y z} => rfl
    -- if well[0] != []
    refine ⟨_, rfl, w, _, 0, .ref l, rfl, rfl, .inl (.inl hw), a0, ?_⟩
    refine ⟨Nat.zero_le _, fun e ne => ?_⟩
    have hL1 : (upd H e (.lst [])) l = some (.lst (ns.map V.int)) := by
      rw [upd_ne (ne_of_none hL ne)]
      exact hL
    have hw1 : (upd H e (.lst [])) w = some (.lst [.ref l, .int st, .int n]) := by
      rw [upd_ne (ne_of_none hw ne)]
      exact hw
    have k1 : Kp (At w) H (upd H e (.lst [])) := kp_new ne
    refine ⟨.list (ns.map PyData.int), .list [], .lst (.inl (.inl hL1)) (ints_dp ns), .lst (.inl (.inl upd_same)) .nil, ints_shaped ns, ints_shaped [], _, rfl, ?_⟩
    rw [ints_nil]
    generalize upd H e (.lst []) = H1 at hL1 hw1 k1
    cases ns with
    | cons x r =>
      refine iteT ?_
      -- rest, digit = divmod(well[0][0], limit)
      refine ⟨_, rfl, w, _, 0, .ref l, rfl, rfl, .inl (.inl hw1), a0, l, _, 0, .int x, rfl, rfl, .inl (.inl hL1), atI_nat (j := 0) rfl, ?_⟩
      refine ⟨_, rfl, x, limit, rfl, ⟨hl, PyProof.noPylong_small (by omega)⟩, fun p np => ?_⟩
      have hL2 : (upd H1 p (.tup [.int (x / limit), .int (x % limit)])) l = some (.lst ((x :: r).map V.int)) := by
        rw [upd_ne (ne_of_none hL1 np)]
        exact hL1
      have hw2 : (upd H1 p (.tup [.int (x / limit), .int (x % limit)])) w = some (.lst [.ref l, .int st, .int n]) := by
        rw [upd_ne (ne_of_none hw1 np)]
        exact hw1
      have k2 : Kp (At w) H (upd H1 p (.tup [.int (x / limit), .int (x % limit)])) := k1.trans (kp_new np)
      refine ⟨p, _, rfl, .inl (.inl upd_same), rfl, _, _, rfl, _, _, rfl, rfl, ?_⟩
      generalize upd H1 p (.tup [.int (x / limit), .int (x % limit)]) = H2 at hL2 hw2 k2
      -- well[0] = ([left] if left > 0 else []) + well[0][1:]
      have tail : ∀ (ms : List Int) (b : Addr) (H3 : Hp), ms.length ≤ 1 → H3 b = some (.lst (ms.map V.int)) → H3 l = some (.lst ((x :: r).map V.int)) → H3 w = some (.lst [.ref l, .int st, .int n]) →
          Kp (At w) H H3 → ∃ v, ([some (.ref w), some (.int limit), some (.int (x / limit)), some (.int (x % limit))] : List (Option V))[0]? = some (some v) ∧
            rIxL K v (.int 0) H3 fun x1 H4 => tPart (tC (.int 1)) [some (.ref w), some (.int limit), some (.int (x / limit)), some (.int (x % limit))] H4 fun lo H5 =>
              tNoPart [some (.ref w), some (.int limit), some (.int (x / limit)), some (.int (x % limit))] H5 fun hi H6 =>
                rSlL K x1 lo hi H6 fun y H7 => rCat (.ref b) y H7 fun z H8 => gSub (tVar 0) (tC (.int 0)) rSetL z [some (.ref w), some (.int limit), some (.int (x / limit)), some (.int (x % limit))] H8 fun σ' H9 => ∃ v, σ'[3]? = some (some v) ∧ Q v H9 := by
        intro ms b H3 hms hb hL3 hw3 k3
        refine ⟨_, rfl, w, _, 0, .ref l, rfl, rfl, .inl (.inl hw3), a0, 1, rfl, l, _, rfl, .inl (.inl hL3), fun c nc => ?_⟩
        rw [cutTail]
        have hb4 : (upd H3 c (.lst (r.map V.int))) b = some (.lst (ms.map V.int)) := by
          rw [upd_ne (ne_of_none hb nc)]
          exact hb
        have hw4 : (upd H3 c (.lst (r.map V.int))) w = some (.lst [.ref l, .int st, .int n]) := by
          rw [upd_ne (ne_of_none hw3 nc)]
          exact hw3
        have k4 : Kp (At w) H (upd H3 c (.lst (r.map V.int))) := k3.trans (kp_new nc)
        rw [List.length_cons] at hlen
        refine ⟨b, c, _, _, rfl, rfl, hb4, upd_same, sz63 (by rw [List.length_map, List.length_map]; omega), fun m nm => ?_⟩
        have hw5 : (upd (upd H3 c (.lst (r.map V.int))) m (.lst (ms.map V.int ++ r.map V.int))) w = some (.lst [.ref l, .int st, .int n]) := by
          rw [upd_ne (ne_of_none hw4 nm)]
          exact hw4
        have hmw : m ≠ w := fun z => by
          rw [z, hw4] at nm
          cases nm
        refine ⟨_, rfl, w, _, 0, 0, rfl, rfl, hw5, rfl, _, rfl, ?_⟩
        refine q _ _ m (Int.emod_nonneg _ (by omega)) (Int.emod_lt_of_pos _ hl) ((k4.trans (kp_new nm)).trans (Kp.mut rfl)) ⟨st, n, ms ++ r, upd_same, hmw, ?_, ?_⟩ (.inr (kp_free k4 nm hmw))
        · rw [upd_ne hmw, upd_same, List.map_append]
        · rw [List.length_append]
          omega
      refine ⟨_, rfl, _, _, rfl, rfl, _, rfl, ite2 (fun _ => ?_) (fun _ => ?_)⟩
      · refine ⟨_, rfl, sz63 (by show 1 ≤ 1000; decide), fun b nb => ?_⟩
        exact tail [x / limit] b _ (Nat.le_refl _) upd_same (by rw [upd_ne (ne_of_none hL2 nb)]; exact hL2) (by rw [upd_ne (ne_of_none hw2 nb)]; exact hw2) (k2.trans (kp_new nb))
      · refine ⟨Nat.zero_le _, fun b nb => ?_⟩
        exact tail [] b _ (Nat.zero_le _) upd_same (by rw [upd_ne (ne_of_none hL2 nb)]; exact hL2) (by rw [upd_ne (ne_of_none hw2 nb)]; exact hw2) (k2.trans (kp_new nb))
    | nil =>
      refine iteF ?_
      -- well[2] = well[2] + 1
      refine ⟨_, rfl, w, _, 2, .int n, rfl, rfl, .inl (.inl hw1), a2, _, _, rfl, rfl, _, rfl, w, _, 2, 2, rfl, rfl, hw1, rfl, ?_⟩
      -- well[1] = ..
      refine ⟨_, rfl, w, _, 1, .int st, rfl, rfl, .inl (.inl upd_same), a1, _, _, rfl, rfl, .inr ⟨by decide, by decide⟩, ?_⟩
      refine ⟨_, rfl, w, _, 2, .int (n + 1), rfl, rfl, .inl (.inl upd_same), a2, _, _, rfl, rfl, .inl ⟨by decide, by decide⟩, ?_⟩
      refine ⟨_, _, rfl, rfl, _, _, rfl, rfl, .inl ⟨_, rfl, ?_⟩⟩
      refine ⟨_, _, rfl, rfl, (by show (0 : Int) < 2147483587; decide), _, rfl, w, _, 1, 1, rfl, rfl, upd_same, rfl, ?_⟩
      -- return int(well[1] // 1009) % limit
      refine ⟨_, rfl, w, _, 1, _, rfl, rfl, .inl (.inl upd_same), a1, _, _, rfl, rfl, ⟨by decide, by decide⟩, .inl ⟨_, rfl, ?_⟩⟩
      refine ⟨_, rfl, _, _, rfl, rfl, hl, ?_⟩
      refine q _ _ l (Int.emod_nonneg _ (by omega)) (Int.emod_lt_of_pos _ hl) ((k1.trans (Kp.mut rfl)).trans (Kp.mut rfl)) ⟨_, _, [], upd_same, hne, ?_, Nat.zero_le _⟩ (.inl rfl)
      rw [upd_ne hne, upd_ne hne]
      exact hL1

theorem ok_pick {f : Addr} {fd : FuncData} (F : Fun K "_law_draw" "_law_draw" s_law_draw f fd) (M : Mb mg) : FnOk P w K mg base CX0 1 f fd ["well", "limit"] spPick :=
  weaken (ok_pickL F M) fun vs H Q E ⟨w, limit, h1, h2, h3, ⟨l, hl⟩, q⟩ => ⟨w, l, limit, h1, h2, h3, hl, fun H' d l' d0 d1 k W _ => q H' d d0 d1 k ⟨l', W⟩⟩
/-! ### one of some -/
def spOfL (K : PySem.W.Frag) : Sp := fun vs H Q _ => ∃ (w l a : Addr) (xs : List V), vs = [.ref w, .ref a] ∧ WellAt w l H ∧ a ≠ w ∧ (SqL K H a xs ∨ SqT K H a xs) ∧ 0 < xs.length ∧ xs.length < 1073741824 ∧
  ∀ (H' : Hp) (i : Nat) (v : V) (l' : Addr), xs[i]? = some v → Kp (At w) H H' → WellAt w l' H' → (l' = l ∨ H l' = none) → Q v H'
def spOf (K : PySem.W.Frag) : Sp := fun vs H Q _ => ∃ (w a : Addr) (xs : List V), vs = [.ref w, .ref a] ∧ IsWell w H ∧ a ≠ w ∧ (SqL K H a xs ∨ SqT K H a xs) ∧ 0 < xs.length ∧ xs.length < 1073741824 ∧
  ∀ (H' : Hp) (i : Nat) (v : V), xs[i]? = some v → Kp (At w) H H' → IsWell w H' → Q v H'
theorem kp_l {w a : Addr} {H H' : Hp} {xs : List V} (k : Kp (At w) H H') (h : a ≠ w) (s : SqL K H a xs) : SqL K H' a xs := by
  rcases s with (e | ⟨o, e⟩) | e
  · exact .inl (.inl (k _ _ h e))
  · exact .inl (.inr ⟨o, k _ _ h e⟩)
  · exact .inr e
theorem kp_t {w a : Addr} {H H' : Hp} {xs : List V} (k : Kp (At w) H H') (h : a ≠ w) (s : SqT K H a xs) : SqT K H' a xs := by
  rcases s with (e | ⟨o, e⟩) | e
  · exact .inl (.inl (k _ _ h e))
  · exact .inl (.inr ⟨o, k _ _ h e⟩)
  · exact .inr e
theorem ok_ofL {f : Addr} {fd : FuncData} (F : Fun K "_law_pick" "_law_pick" s_law_pick f fd) (M : Mb mg) (Dlaw_draw : Df P w K mg base 1 "_law_draw" ["well", "limit"] spPickL) :
    FnOk P w K mg base CX0 2 f fd ["well", "some"] (spOfL K) := by
  refine F.ok c_law_pick (fun vs H Q E h => ?_) (fun cdv A outer s H vs Q E hr h => ?_)
  · obtain ⟨w, l, a, xs, rfl, _⟩ := h
    rfl
  · obtain ⟨w, l, a, xs, rfl, hW, ne, hx, h0, h1, q⟩ := h
    refine ⟨_, (pss_one (ps_ret (pe_ix ix_seq (pv 1) (pe_call Dlaw_draw.G (hr.mono (by first | decide | omega)) rfl Dlaw_draw.g Dlaw_draw.kp Dlaw_draw.b .nil pass0 (pa_cons (pv 0) (pa_cons (pe_callB call_len_seq (by rfl) M.len (by decide +kernel) (pa_cons (pv 1) pa_nil)) pa_nil))) (fun _ _ => rfl)))), ?_⟩
    refine ⟨_, rfl, _, rfl, _, rfl, a, xs, rfl, hx, w, l, _, rfl, by omega, by omega, hW, fun H' d l' d0 d1 k hW' hl' => ?_⟩
    obtain ⟨j, rfl⟩ : ∃ j : Nat, d = (j : Int) := ⟨d.toNat, by omega⟩
    have hd : j < xs.length := by omega
    have get : xs[j]? = some xs[j] := by simp [hd]
    have hat : atI xs (j : Int) = some xs[j] := atI_nat get
    rcases hx with hx | hx
    · exact .inl ⟨a, xs, _, _, rfl, rfl, kp_l k ne hx, hat, q H' _ _ l' get k hW' hl'⟩
    · exact .inr (.inl ⟨a, xs, _, _, rfl, rfl, kp_t k ne hx, hat, q H' _ _ l' get k hW' hl'⟩)
theorem ok_of {f : Addr} {fd : FuncData} (F : Fun K "_law_pick" "_law_pick" s_law_pick f fd) (M : Mb mg) (Dlaw_draw : Df P w K mg base 1 "_law_draw" ["well", "limit"] spPickL) :
    FnOk P w K mg base CX0 2 f fd ["well", "some"] (spOf K) :=
  weaken (ok_ofL F M Dlaw_draw) fun vs H Q E ⟨w, a, xs, h1, ⟨l, hl⟩, h3, h4, h5, h6, q⟩ => ⟨w, l, a, xs, h1, hl, h3, h4, h5, h6, fun H' i v l' e k W _ => q H' i v e k ⟨l', W⟩⟩
end
end Kx
/-! The program's exact numbers and what is a walk. -/
namespace Kx
open PySem PySem.Spec PyProof.Rows L2 Bw

/-- the program's constants -/
structure Mp (K : PySem.W.Frag) (mg : Str → Option Value) where
  gcd : mg "gcd" = some (.builtin "math.gcd")
  nilA : Addr
  nil : mg "NIL" = some (.ref nilA)
  nilT : ∀ H, SqT K H nilA [.int 0, .int 1]
  oneA : Addr
  one : mg "ONE" = some (.ref oneA)
  oneT : ∀ H, SqT K H oneA [.int 1, .int 1]
  tk : Tok
  most : mg "MOST_PLACES" = some (.int 6 tk)

abbrev sis_whole : Stmt := topS 9
abbrev nis_whole : List Str := ["value"]
theorem cis_whole : FnScope nis_whole ["value"] (defScope sis_whole) :=
  ⟨rfl, rfl, rfl, by decide +kernel, rfl, by decide +kernel, by decide +kernel⟩

abbrev sis_fraction : Stmt := topS 10
abbrev nis_fraction : List Str := ["value", "top", "bottom"]
theorem cis_fraction : FnScope nis_fraction ["value"] (defScope sis_fraction) :=
  ⟨rfl, rfl, rfl, by decide +kernel, rfl, by decide +kernel, by decide +kernel⟩

abbrev sis_from_nil : Stmt := topS 11
abbrev nis_from_nil : List Str := ["value"]
theorem cis_from_nil : FnScope nis_from_nil ["value"] (defScope sis_from_nil) :=
  ⟨rfl, rfl, rfl, by decide +kernel, rfl, by decide +kernel, by decide +kernel⟩

abbrev slowest : Stmt := topS 12
abbrev nlowest : List Str := ["top", "bottom", "shared"]
theorem clowest : FnScope nlowest ["top", "bottom"] (defScope slowest) :=
  ⟨rfl, rfl, rfl, by decide +kernel, rfl, by decide +kernel, by decide +kernel⟩

abbrev splus : Stmt := topS 13
abbrev nplus : List Str := ["one", "other"]
theorem cplus : FnScope nplus ["one", "other"] (defScope splus) :=
  ⟨rfl, rfl, rfl, by decide +kernel, rfl, by decide +kernel, by decide +kernel⟩

abbrev stotal : Stmt := topS 14
abbrev ntotal : List Str := ["fractions", "result", "fraction"]
theorem ctotal : FnScope ntotal ["fractions"] (defScope stotal) :=
  ⟨rfl, rfl, rfl, by decide +kernel, rfl, by decide +kernel, by decide +kernel⟩

abbrev sis_table_row : Stmt := topS 17
abbrev nis_table_row : List Str := ["value", "many", "number"]
theorem cis_table_row : FnScope nis_table_row ["value", "many"] (defScope sis_table_row) :=
  ⟨rfl, rfl, rfl, by decide +kernel, rfl, by decide +kernel, by decide +kernel⟩

abbrev sis_table : Stmt := topS 18
abbrev nis_table : List Str := ["value", "row"]
theorem cis_table : FnScope nis_table ["value"] (defScope sis_table) :=
  ⟨rfl, rfl, rfl, by decide +kernel, rfl, by decide +kernel, by decide +kernel⟩

abbrev sleads_to_all : Stmt := topS 19
abbrev nleads_to_all : List Str := ["links", "found", "waiting", "here", "there", "link"]
theorem cleads_to_all : FnScope nleads_to_all ["links"] (defScope sleads_to_all) :=
  ⟨rfl, rfl, rfl, by decide +kernel, rfl, by decide +kernel, by decide +kernel⟩

abbrev sis_whole_table : Stmt := topS 20
abbrev nis_whole_table : List Str := ["table", "links", "row", "number", "turned", "column"]
theorem cis_whole_table : FnScope nis_whole_table ["table"] (defScope sis_whole_table) :=
  ⟨rfl, rfl, rfl, by decide +kernel, rfl, by decide +kernel, by decide +kernel⟩

abbrev sis_walk : Stmt := topS 21
abbrev nis_walk : List Str := ["value", "row"]
theorem cis_walk : FnScope nis_walk ["value"] (defScope sis_walk) :=
  ⟨rfl, rfl, rfl, by decide +kernel, rfl, by decide +kernel, by decide +kernel⟩



section
variable {P : Program} {w : World} {K : PySem.W.Frag} {mg : Str → Option Value} {base : Heap}

/-- a question about any value, the heap as it was -/
def spAsk (b : PyData → Bool) : Sp := fun vs H Q _ => ∃ (W : Addr → Prop) (v : V) (d : PyData), vs = [v] ∧ Dq W H v d ∧ Q (.bl (b d)) H
theorem ok_is_whole {f : Addr} {fd : FuncData} (F : Fun K "is_whole" "is_whole" sis_whole f fd) (M : Mb mg) : FnOk P w K mg base CX0 1 f fd ["value"] (spAsk isNum) := by
  refine F.ok cis_whole (fun vs H Q E h => ?_) (fun cdv A outer s H vs Q E hr h => ?_)
  · obtain ⟨_, v, d, rfl, _⟩ := h
    rfl
  · obtain ⟨W, v, d, rfl, hd, q⟩ := h
    refine ⟨_, (pss_one (ps_ret (pe_and (pe_callB call_isD (by rfl) M.isinstance (by decide +kernel) (pa_cons (pv 0) (pa_cons (pe_bltn (v := .ty "int") rfl M.int (by decide +kernel) rfl) pa_nil))) (pe_one (pe_not (pe_callB call_isD (by rfl) M.isinstance (by decide +kernel) (pa_cons (pv 0) (pa_cons (pe_bltn (v := .ty "bool") rfl M.bool (by decide +kernel) rfl) pa_nil)))))))), ?_⟩
    refine ⟨_, rfl, W, v, d, "int", _, rfl, hd, kit_int d, _, rfl, ?_⟩
    cases d with
    | int i => exact ifT rfl ⟨_, rfl, W, v, _, "bool", _, rfl, hd, kit_bool _, _, rfl, q⟩
    | bool b => exact ifT rfl ⟨_, rfl, W, v, _, "bool", _, rfl, hd, kit_bool _, _, rfl, q⟩
    | _ => exact ifF (fun z => nomatch z) q
theorem ok_is_fraction {f : Addr} {fd : FuncData} (F : Fun K "is_fraction" "is_fraction" sis_fraction f fd) (M : Mb mg) (Z : Mp K mg) (Dis_whole : Df P w K mg base 1 "is_whole" ["value"] (spAsk isNum)) :
    FnOk P w K mg base CX0 2 f fd ["value"] (spAsk isFr) := by
  refine F.ok cis_fraction (fun vs H Q E h => ?_) (fun cdv A outer s H vs Q E hr h => ?_)
  · obtain ⟨_, v, d, rfl, _⟩ := h
    rfl
  · obtain ⟨W, v, d, rfl, hd, q⟩ := h
    refine ⟨_, (pss_cons (ps_if (PW.pt (pw_or (pt_not (pt_val (pe_callB call_isD (by rfl) M.isinstance (by decide +kernel) (pa_cons (pv 0) (pa_cons (pe_bltn (v := .ty "tuple") rfl M.tuple (by decide +kernel) rfl) pa_nil))))) (pw_or1 (pt_cmpR op_ne (pe_callB call_len_seq (by rfl) M.len (by decide +kernel) (pa_cons (pv 0) pa_nil)) pe_int (nomark _)))))
 (pss_one (ps_ret pe_bl))
 pss_nil)
 (pss_cons (ps_asg (pv 0) (pg_tup rfl (pgs_cons (pg_name (i := 1) cis_fraction.nd rfl (.inl rfl)) (pgs_cons (pg_name (i := 2) cis_fraction.nd rfl (.inl rfl)) pgs_nil))))
 (pss_one (ps_ret (pe_and (pe_call Dis_whole.G (hr.mono (by first | decide | omega)) rfl Dis_whole.g Dis_whole.kp Dis_whole.b .nil pass0 (pa_cons (pv 1) pa_nil)) (pe_and (pe_call Dis_whole.G (hr.mono (by first | decide | omega)) rfl Dis_whole.g Dis_whole.kp Dis_whole.b .nil pass0 (pa_cons (pv 2) pa_nil)) (pe_and (pe_cmpR op_gt (pv 2) pe_int (nomark _)) (pe_one (pe_cmpR op_eq (pe_callBfun cr_gcd (by rfl) Z.gcd (pa_cons (pv 1) (pa_cons (pv 2) pa_nil))) pe_int (nomark _)))))))))), ?_⟩
    refine ⟨_, rfl, W, v, d, "tuple", _, rfl, hd, kit_tup d, _, rfl, ?_⟩
    cases hd with
    | tup na ea el =>
      rename_i a xs ds
      refine iteF ⟨_, rfl, a, xs, rfl, .inr (.of ea), rfl, _, rfl, ite2 (fun hn => ?_) (fun hn => ?_)⟩
      · have hl : ds.length ≠ 2 := fun z => by
          have := el.length
          simp at hn
          omega
        have e : isFr (.tuple ds) = false := by
          unfold isFr
          split
          · rename_i z
            cases z
            simp at hl
          · rfl
        rw [e] at q
        exact q
      · have hl : xs.length = 2 := by
          simp at hn
          omega
        match xs, ds, el, hl with
        | [x, y], [d1, d2], .cons h1 (.cons h2 .nil), _ =>
          refine ⟨_, rfl, a, [x, y], rfl, .of ea, rfl, x, [y], rfl, y, [], rfl, rfl, ?_⟩
          refine ⟨_, rfl, W, x, d1, rfl, h1, _, rfl, ?_⟩
          cases h1 with
          | int i =>
            refine iteT ⟨_, rfl, W, y, d2, rfl, h2, _, rfl, ?_⟩
            cases h2 with
            | int j =>
              refine iteT ⟨_, rfl, j, 0, rfl, rfl, _, rfl, ite2 (fun hb => ?_) (fun hb => ?_)⟩
              · refine ⟨_, rfl, _, rfl, i, j, rfl, rfl, ?_⟩
                have e : isFr (.tuple [.int i, .int j]) = decide (V.int ((Nat.gcd i.natAbs j.natAbs : Nat) : Int) = V.int 1) := by
                  show (decide (0 < j) && decide (Nat.gcd i.natAbs j.natAbs = 1)) = _
                  rw [hb, Bool.true_and]
                  refine decide_eq_decide.mpr ⟨fun z => by rw [z]; rfl, fun z => ?_⟩
                  have z' := V.int.inj z
                  omega
                rw [e] at q
                exact q
              · have e : isFr (.tuple [.int i, .int j]) = false := by
                  show (decide (0 < j) && decide (Nat.gcd i.natAbs j.natAbs = 1)) = _
                  rw [Bool.eq_false_iff.mpr hb, Bool.false_and]
                rw [e] at q
                exact q
            | _ => exact q
          | _ => exact q
    | _ => exact q
theorem isFr0_of {a b : Int} : isFr0 (.tuple [.int a, .int b]) = (isFr (.tuple [.int a, .int b]) && decide (0 ≤ a)) := rfl
theorem isFr0_no {d : PyData} (h : isFr d = false) : isFr0 d = false := by
  unfold isFr0
  split
  · rename_i a b
    have h' : (decide (0 < b) && decide (Nat.gcd a.natAbs b.natAbs = 1)) = false := h
    rw [h', Bool.false_and]
  · rfl
theorem ok_is_from_nil {f : Addr} {fd : FuncData} (F : Fun K "is_from_nil" "is_from_nil" sis_from_nil f fd) (M : Mb mg) (Dis_fraction : Df P w K mg base 2 "is_fraction" ["value"] (spAsk isFr)) :
    FnOk P w K mg base CX0 3 f fd ["value"] (spAsk isFr0) := by
  refine F.ok cis_from_nil (fun vs H Q E h => ?_) (fun cdv A outer s H vs Q E hr h => ?_)
  · obtain ⟨_, v, d, rfl, _⟩ := h
    rfl
  · obtain ⟨W, v, d, rfl, hd, q⟩ := h
    refine ⟨_, (pss_one (ps_ret (pe_and (pe_call Dis_fraction.G (hr.mono (by first | decide | omega)) rfl Dis_fraction.g Dis_fraction.kp Dis_fraction.b .nil pass0 (pa_cons (pv 0) pa_nil)) (pe_one (pe_cmpR op_ge (pe_ix ix_tup (pv 0) pe_int (fun _ _ => rfl)) pe_int (nomark _)))))), ?_⟩
    refine ⟨_, rfl, W, v, d, rfl, hd, _, rfl, ?_⟩
    cases e : isFr d with
    | false =>
      rw [isFr0_no e] at q
      exact ifF (fun z => nomatch z) q
    | true =>
      obtain ⟨r, rfl⟩ := isFr_iff.mp e
      obtain ⟨a, rfl, _, ea⟩ := hd.frI
      refine ifT rfl ⟨_, rfl, a, _, 0, _, rfl, rfl, .of ea, rfl, _, _, rfl, rfl, ?_⟩
      have e2 : isFr0 (frD r) = decide (0 ≤ r.num) := by
        show (isFr (frD r) && _) = _
        rw [e, Bool.true_and]
      rw [e2] at q
      exact q

/-- two whole numbers brought to lowest terms -/
def spLowest : Sp := fun vs H Q _ => ∃ (a b : Int) (n : Nat), vs = [.int a, .int b] ∧ 0 < b ∧ b.natAbs < 2 ^ n ∧ n ≤ 9000 ∧
  ∀ p, H p = none → Q (.ref p) (upd H p (.tup [.int (Rat.divInt a b).num, .int (Rat.divInt a b).den]))
theorem ok_lowest {f : Addr} {fd : FuncData} (F : Fun K "lowest" "lowest" slowest f fd) (M : Mb mg) (Z : Mp K mg) : FnOk P w K mg base CX0 1 f fd ["top", "bottom"] spLowest := by
  refine F.ok clowest (fun vs H Q E h => ?_) (fun cdv A outer s H vs Q E hr h => ?_)
  · obtain ⟨a, b, n, rfl, _⟩ := h
    rfl
  · obtain ⟨a, b, n, rfl, hb, hn, h9, q⟩ := h
    refine ⟨_, (pss_cons (ps_set (i := 2) clowest.nd rfl (.inl rfl) (pe_callBfun cr_gcd (by rfl) Z.gcd (pa_cons (pv 0) (pa_cons (pv 1) pa_nil))))
 (pss_cons (ps_if (pt_cmpR op_lt (pv 1) pe_int (nomark _))
 (pss_one (ps_set (i := 2) clowest.nd rfl (.inl rfl) (pe_un un_neg (pv 2))))
 pss_nil)
 (pss_one (ps_ret (pe_tup (pa_cons (pe_op op_fdivW (pv 0) (pv 2)) (pa_cons (pe_op op_fdivW (pv 1) (pv 2)) pa_nil))))))), ?_⟩
    have hg : 0 < Nat.gcd a.natAbs b.natAbs := Nat.gcd_pos_of_pos_right _ (by omega)
    have hg2 : Nat.gcd a.natAbs b.natAbs ≤ b.natAbs := Nat.gcd_le_right _ (by omega)
    have hn0 : 0 < n := by
      cases n with
      | zero => omega
      | succ n => omega
    have cd : CDivW a ((Nat.gcd a.natAbs b.natAbs : Nat) : Int) := wide_div (b := n) (by omega) (by omega) hn0 h9
    refine ⟨_, rfl, _, rfl, a, b, rfl, _, rfl, _, _, rfl, rfl, _, rfl, ifF (by rw [decide_eq_true_eq]; omega) ?_⟩
    refine ⟨_, rfl, _, rfl, _, _, rfl, rfl, cd, _, rfl, _, rfl, _, _, rfl, rfl, cd, sz63 (by show 2 ≤ 1000; decide), fun p hp => ?_⟩
    have q' := q p hp
    rw [Bq.q_num hb, Bq.q_den hb] at q'
    exact q'
/-- the sum of two fractions -/
def spPlus (K : PySem.W.Frag) : Sp := fun vs H Q _ => ∃ (v u : V) (p q : Rat) (m n : Nat), vs = [v, u] ∧ FrR K H v p ∧ FrR K H u q ∧ Bq.Sz m p ∧ Bq.Sz n q ∧ m + n ≤ 9000 ∧
  ∀ a, H a = none → Q (.ref a) (upd H a (.tup [.int (p + q).num, .int (p + q).den]))
theorem sz_pos {n : Nat} {q : Rat} (h : Bq.Sz n q) : 0 < n := by
  have h1 := Bq.den_pos q
  have h2 := h.2
  cases n with
  | zero => omega
  | succ n => omega
theorem mulW {x y : Int} {m n : Nat} (hx : x.natAbs < 2 ^ m) (hy : y.natAbs < 2 ^ n) (m0 : 0 < m) (n0 : 0 < n) (h : m + n ≤ 9000) : CMulW x y := wide_mul hx hy m0 n0 (by omega)
theorem ok_plus {f : Addr} {fd : FuncData} (F : Fun K "plus" "plus" splus f fd) (M : Mb mg) (Dlowest : Df P w K mg base 1 "lowest" ["top", "bottom"] spLowest) : FnOk P w K mg base CX0 2 f fd ["one", "other"] (spPlus K) := by
  refine F.ok cplus (fun vs H Q E h => ?_) (fun cdv A outer s H vs Q E hr h => ?_)
  · obtain ⟨v, u, p, q, m, n, rfl, _⟩ := h
    rfl
  · obtain ⟨v, u, p, r, m, n, rfl, ⟨a, rfl, ha⟩, ⟨b, rfl, hb⟩, sp, sr, hmn, q⟩ := h
    refine ⟨_, (pss_one (ps_ret (pe_call Dlowest.G (hr.mono (by first | decide | omega)) rfl Dlowest.g Dlowest.kp Dlowest.b .nil pass0 (pa_cons (pe_op op_add (pe_op op_mulW (pe_ix ix_tup (pv 0) pe_int (fun _ _ => rfl)) (pe_ix ix_tup (pv 1) pe_int (fun _ _ => rfl))) (pe_op op_mulW (pe_ix ix_tup (pv 1) pe_int (fun _ _ => rfl)) (pe_ix ix_tup (pv 0) pe_int (fun _ _ => rfl)))) (pa_cons (pe_op op_mulW (pe_ix ix_tup (pv 0) pe_int (fun _ _ => rfl)) (pe_ix ix_tup (pv 1) pe_int (fun _ _ => rfl))) pa_nil))))), ?_⟩
    have m0 := sz_pos sp
    have n0 := sz_pos sr
    refine ⟨_, rfl, a, _, 0, _, rfl, rfl, ha, rfl, _, rfl, b, _, 1, _, rfl, rfl, hb, rfl, _, _, rfl, rfl, mulW sp.1 (Bq.den_abs sr) m0 n0 hmn, ?_⟩
    refine ⟨_, rfl, b, _, 0, _, rfl, rfl, hb, rfl, _, rfl, a, _, 1, _, rfl, rfl, ha, rfl, _, _, rfl, rfl, mulW sr.1 (Bq.den_abs sp) n0 m0 (by omega), ?_⟩
    refine ⟨_, _, rfl, rfl, ?_⟩
    refine ⟨_, rfl, a, _, 1, _, rfl, rfl, ha, rfl, _, rfl, b, _, 1, _, rfl, rfl, hb, rfl, _, _, rfl, rfl, mulW (Bq.den_abs sp) (Bq.den_abs sr) m0 n0 hmn, ?_⟩
    refine ⟨_, _, m + n, rfl, Bq.dens_pos p r, Bq.dens sp sr, hmn, fun x hx => ?_⟩
    have q' := q x hx
    rw [← Bq.q_add] at q'
    exact q'
/-- a row of fractions that is read -/
def FrRow (K : PySem.W.Frag) (H : Hp) (xs : List V) (qs : List Rat) : Prop := xs.length = qs.length ∧ ∀ (i : Nat) v q, xs[i]? = some v → qs[i]? = some q → FrR K H v q
theorem FrRow.same {H H' : Hp} {xs : List V} {qs : List Rat} (s : Same H H') (h : FrRow K H xs qs) : FrRow K H' xs qs := ⟨h.1, fun i v q e1 e2 => (h.2 i v q e1 e2).same s⟩
theorem dq_row {W : Addr → Prop} {H : Hp} : ∀ {xs : List V} {qs : List Rat}, DqAll W H xs (qs.map frD) → FrRow K H xs qs
  | [], [], _ => ⟨rfl, fun i v q e => by simp at e⟩
  | _, [], h => by
    cases h
    exact ⟨rfl, fun i v q e => by simp at e⟩
  | _, q :: qs, h => by
    cases h with
    | cons h t =>
      obtain ⟨l, r⟩ := dq_row t
      refine ⟨congrArg (· + 1) l, fun i v q' e1 e2 => ?_⟩
      cases i with
      | zero =>
        simp at e1 e2
        subst e1 e2
        exact h.fr
      | succ i => exact r i v q' e1 e2
theorem sum_take {qs : List Rat} {i : Nat} {q : Rat} (h : qs[i]? = some q) : Bq.sumQ (qs.take (i + 1)) = Bq.sumQ (qs.take i) + q := by
  rw [List.take_succ, h]
  exact Bq.sum_snoc _ _
theorem sz_take {n : Nat} {qs : List Rat} (h : ∀ q ∈ qs, Bq.Sz n q) : ∀ i, i ≤ qs.length → Bq.Sz (1 + i * (n + 1)) (Bq.sumQ (qs.take i))
  | 0, _ => by
    rw [Nat.zero_mul]
    exact Bq.Sz.zero
  | i + 1, hi => by
    have e : qs[i]? = some qs[i] := List.getElem?_eq_getElem (by omega)
    rw [sum_take e]
    have h1 := sz_take h i (by omega)
    have h2 := h _ (List.mem_of_getElem? e)
    have h3 := h1.add h2
    have e2 : 1 + i * (n + 1) + n + 1 = 1 + (i + 1) * (n + 1) := by
      rw [Nat.succ_mul]
      omega
    rw [e2] at h3
    exact h3
/-- the sum of a row, a tuple -/
def spTotal (K : PySem.W.Frag) : Sp := fun vs H Q _ => ∃ (a : Addr) (xs : List V) (qs : List Rat) (n : Nat), vs = [.ref a] ∧ SqT K H a xs ∧ FrRow K H xs qs ∧ (∀ q ∈ qs, Bq.Sz n q) ∧ 1 + qs.length * (n + 1) ≤ 9000 ∧
  ∀ v H', Same H H' → FrR K H' v (Bq.sumQ qs) → (qs ≠ [] → Dq (Old H) H' v (frD (Bq.sumQ qs))) → Q v H'
theorem ok_total {f : Addr} {fd : FuncData} (F : Fun K "total" "total" stotal f fd) (M : Mb mg) (Z : Mp K mg) (Dplus : Df P w K mg base 2 "plus" ["one", "other"] (spPlus K)) : FnOk P w K mg base CX0 3 f fd ["fractions"] (spTotal K) := by
  refine F.ok ctotal (fun vs H Q E h => ?_) (fun cdv A outer s H vs Q E hr h => ?_)
  · obtain ⟨a, xs, qs, n, rfl, _⟩ := h
    rfl
  · obtain ⟨a, xs, qs, n, rfl, ha, hx, hs, hn, q⟩ := h
    refine ⟨_, (pss_cons (ps_set (i := 1) ctotal.nd rfl (.inl rfl) (pe_glob (v := .ref Z.nilA) rfl Z.nil rfl))
 (pss_cons (ps_for PassesOwn.never rfl (pi_tup (pv 0)) (pg_name (i := 2) ctotal.nd rfl (.inl rfl))
 (pss_one (ps_set (i := 1) ctotal.nd rfl (.inl rfl) (pe_call Dplus.G (hr.mono (by first | decide | omega)) rfl Dplus.g Dplus.kp Dplus.b .nil pass0 (pa_cons (pv 1) (pa_cons (pv 2) pa_nil))))))
 (pss_one (ps_ret (pv 1))))), ?_⟩
    refine ⟨_, rfl, a, rfl, ⟨_, ha⟩, for_tup (K := K) (a := a) (xs := xs)
      (fun i σ H' => ∃ v y, σ = [some (.ref a), some v, y] ∧ Same H H' ∧ FrR K H' v (Bq.sumQ (qs.take i)) ∧ (0 < i → Dq (Old H) H' v (frD (Bq.sumQ (qs.take i)))))
      ⟨_, none, rfl, .refl H, ⟨_, rfl, Z.nilT H⟩, fun z => absurd z (Nat.lt_irrefl _)⟩ (fun i σ H' _ ⟨_, _, _, s, _⟩ => same_tup s ha) ?_ ?_⟩
    · rintro i x σ H1 hi ⟨v, y, rfl, s1, hv, _⟩
      have hl : i < qs.length := by
        rw [← hx.1]
        exact (List.getElem?_eq_some_iff.mp hi).1
      have e : qs[i]? = some qs[i] := List.getElem?_eq_getElem hl
      have hb : i * (n + 1) + (n + 1) ≤ qs.length * (n + 1) := by
        rw [← Nat.succ_mul]
        exact Nat.mul_le_mul_right _ hl
      refine ⟨_, rfl, _, rfl, v, x, _, _, 1 + i * (n + 1), n, rfl, hv, (hx.2 i x _ hi e).same s1, sz_take hs i (by omega), hs _ (List.mem_of_getElem? e), by omega, fun p hp => ?_⟩
      rw [← sum_take e]
      exact ⟨_, _, rfl, s1.trans (same_new hp), ⟨p, rfl, .of upd_same⟩, fun _ => fr_dq (fun z => z (s1.free hp)) upd_same⟩
    · rintro σ H1 ⟨v, y, rfl, s1, hv, hd⟩
      rw [hx.1, List.take_length] at hv hd
      refine ⟨_, rfl, q v H1 s1 hv fun z => hd ?_⟩
      cases qs with
      | nil => exact absurd rfl z
      | cons q r => exact Nat.succ_pos _
abbrev No : Addr → Prop := fun _ => False
theorem no_same {H H' : Hp} (k : Kp No H H') : Same H H' := fun a o e => k a o id e
/-- is it a row of k fractions from 0 on -/
def spTRow : Sp := fun vs H Q _ => ∃ (W : Addr → Prop) (v : V) (d : PyData) (k : Nat), vs = [v, .int k] ∧ Dq W H v d ∧ k ≤ 1000 ∧ ∀ H', Same H H' → Q (.bl (isRow k d)) H'
theorem ok_is_table_row {f : Addr} {fd : FuncData} (F : Fun K "is_table_row" "is_table_row" sis_table_row f fd) (M : Mb mg) (Dis_from_nil : Df P w K mg base 3 "is_from_nil" ["value"] (spAsk isFr0)) :
    FnOk P w K mg base CX0 4 f fd ["value", "many"] spTRow := by
  refine F.ok cis_table_row (fun vs H Q E h => ?_) (fun cdv A outer s H vs Q E hr h => ?_)
  · obtain ⟨_, v, d, k, rfl, _⟩ := h
    rfl
  · obtain ⟨W, v, d, k, rfl, hd, hk, q⟩ := h
    refine ⟨_, (pss_one (ps_ret (pe_and (pe_callB call_isD (by rfl) M.isinstance (by decide +kernel) (pa_cons (pv 0) (pa_cons (pe_bltn (v := .ty "tuple") rfl M.tuple (by decide +kernel) rfl) pa_nil))) (pe_and (pe_cmpR op_eq (pe_callB call_len_seq (by rfl) M.len (by decide +kernel) (pa_cons (pv 0) pa_nil)) (pv 1) (nomark _)) (pe_one (pe_callB (cr_all rfl) (by rfl) M.all (by decide +kernel) (pa_cons (pe_lc (own := [("number", 2)]) rfl cis_table_row.nd (pi_tup (pv 0)) (blkOk_by (own := [("number", 2)]) (N := nis_table_row) (sc := defScope sis_table_row) (by decide +kernel)) (fun _ _ _ _ _ => (pg_name (i := 2) cis_table_row.nd rfl (.inl rfl))) (fun _ _ _ _ _ => pts_nil) (fun _ _ _ _ _ => (pe_call Dis_from_nil.G (hr.mono (by first | decide | omega)) rfl Dis_from_nil.g Dis_from_nil.kp Dis_from_nil.b .nil pass0 (pa_cons (pv 2) pa_nil)))) pa_nil))))))), ?_⟩
    refine ⟨_, rfl, W, v, d, "tuple", _, rfl, hd, kit_tup d, _, rfl, ?_⟩
    cases hd with
    | tup na ea el =>
      rename_i a xs ds
      have hl := el.length
      refine ifT rfl ⟨_, rfl, a, xs, rfl, .inr (.of ea), _, rfl, rfl, _, rfl, ite2 (fun hn => ?_) (fun hn => ?_)⟩
      · have hn' : xs.length = k := by
          have h1 := of_decide_eq_true hn
          have h2 := V.int.inj h1
          omega
        refine ⟨_, rfl, a, rfl, ⟨xs, .of ea⟩, fun D nD => lc_rel (walk_tup (K := K) (a := a) (xs := xs)) No (fun H i y => ∃ b, y = .bl b ∧ (ds.map isFr0)[i]? = some b) (fun _ _ _ _ _ r => r) nD (fun _ z => z.elim) (by omega)
          (fun H' k' => .of (k' _ _ id ea)) ?_ ?_⟩
        · rintro i x H1 _ Q' hi k1 _ ⟨rfl, hx⟩ q'
          obtain ⟨d, hd, dx⟩ := el.at hx
          exact ⟨rfl, _, rfl, W, x, d, rfl, dx.keep (Kp.same (no_same k1)), q' _ _ (.refl _) ⟨_, rfl, by rw [List.getElem?_map, hd]; rfl⟩⟩
        · rintro H1 acc k1 eD hla ha
          refine ⟨D, ds.map isFr0, rfl, .of ?_, ?_⟩
          · rw [eD, bls_of (by rw [hla, List.length_map, hl]) ha]
          · have e : isRow k (.tuple ds) = (ds.map isFr0).all id := by
              show (decide (ds.length = k) && ds.all isFr0) = _
              rw [decide_eq_true (by omega), Bool.true_and, List.all_map]
              rfl
            rw [e] at q
            exact q H1 (no_same k1)
      · have e : isRow k (.tuple ds) = false := by
          show (decide (ds.length = k) && ds.all isFr0) = _
          rw [decide_eq_false, Bool.false_and]
          intro z
          apply hn
          rw [hl, z]
          exact decide_eq_true rfl
        rw [e] at q
        exact q H (.refl H)
    | _ => exact ifF (fun z => nomatch z) (q H (.refl H))
/-- a question about any value -/
def spAskN (b : PyData → Bool) : Sp := fun vs H Q _ => ∃ (W : Addr → Prop) (v : V) (d : PyData), vs = [v] ∧ Dq W H v d ∧ ∀ H', Same H H' → Q (.bl (b d)) H'
theorem ok_is_table {f : Addr} {fd : FuncData} (F : Fun K "is_table" "is_table" sis_table f fd) (M : Mb mg) (Z : Mp K mg) (Dis_table_row : Df P w K mg base 4 "is_table_row" ["value", "many"] spTRow) :
    FnOk P w K mg base CX0 5 f fd ["value"] (spAskN isTable) := by
  refine F.ok cis_table (fun vs H Q E h => ?_) (fun cdv A outer s H vs Q E hr h => ?_)
  · obtain ⟨_, v, d, rfl, _⟩ := h
    rfl
  · obtain ⟨W, v, d, rfl, hd, q⟩ := h
    refine ⟨_, (pss_cons (ps_if (PW.pt (pw_or (pt_not (pt_val (pe_callB call_isD (by rfl) M.isinstance (by decide +kernel) (pa_cons (pv 0) (pa_cons (pe_bltn (v := .ty "tuple") rfl M.tuple (by decide +kernel) rfl) pa_nil))))) (pw_or1 (pt_not (pt_chain op_le op_le pe_int (pe_callB call_len_seq (by rfl) M.len (by decide +kernel) (pa_cons (pv 0) pa_nil)) (pe_glob (v := .int 6) rfl Z.most ⟨_, rfl⟩))))))
 (pss_one (ps_ret pe_bl))
 pss_nil)
 (pss_one (ps_ret (pe_callB (cr_all rfl) (by rfl) M.all (by decide +kernel) (pa_cons (pe_lc (own := [("row", 1)]) rfl cis_table.nd (pi_tup (pv 0)) (blkOk_by (own := [("row", 1)]) (N := nis_table) (sc := defScope sis_table) (by decide +kernel)) (fun _ _ _ _ _ => (pg_name (i := 1) cis_table.nd rfl (.inl rfl))) (fun _ _ _ _ _ => pts_nil) (fun _ _ _ _ _ => (pe_call Dis_table_row.G (hr.mono (by first | decide | omega)) rfl Dis_table_row.g Dis_table_row.kp Dis_table_row.b .nil pass0 (pa_cons (pv 1) (pa_cons (pe_callB (id := "len") (call_lenK (K := K) rfl) (by rfl) M.len (by decide +kernel) (pa_cons (pv 0) pa_nil)) pa_nil))))) pa_nil))))), ?_⟩
    refine ⟨_, rfl, W, v, d, "tuple", _, rfl, hd, kit_tup d, _, rfl, ?_⟩
    cases hd with
    | tup na ea el =>
      rename_i a xs ds
      have hl := el.length
      refine ifF (fun z => nomatch z) ?_
      refine ⟨_, rfl, a, xs, rfl, .inr (.of ea), _, _, rfl, rfl, _, rfl, ite2 (fun h1 => ?_) (fun h1 => ?_)⟩
      · refine ⟨_, _, rfl, rfl, _, rfl, ite2 (fun h2 => ?_) (fun h2 => ?_)⟩
        · have e : isTable (.tuple ds) = false := by
            show (decide (1 ≤ ds.length ∧ ds.length ≤ 6) && _) = _
            rw [decide_eq_false, Bool.false_and]
            simp at h2
            omega
          rw [e] at q
          exact q H (.refl H)
        · have l1 : 1 ≤ ds.length ∧ ds.length ≤ 6 := by
            simp at h1 h2
            omega
          refine ⟨_, rfl, a, rfl, ⟨xs, .of ea⟩, fun D nD => lc_rel (walk_tup (K := K) (a := a) (xs := xs)) No (fun H i y => ∃ b, y = .bl b ∧ (ds.map (isRow ds.length))[i]? = some b) (fun _ _ _ _ _ r => r) nD (fun _ z => z.elim) (by omega)
            (fun H' k' => .of (k' _ _ id ea)) ?_ ?_⟩
          · rintro i x H1 _ Q' hi k1 _ ⟨rfl, hx⟩ q'
            obtain ⟨d, hd, dx⟩ := el.at hx
            have s1 := no_same k1
            refine ⟨rfl, _, rfl, _, rfl, a, xs, rfl, .inr (.of (s1 _ _ ea)), W, x, d, ds.length, by rw [hl]; rfl, dx.keep (Kp.same s1), by omega, fun H2 s2 => q' _ _ (Kp.same s2) ⟨_, rfl, by rw [List.getElem?_map, hd]; rfl⟩⟩
          · rintro H1 acc k1 eD hla ha
            refine ⟨D, ds.map (isRow ds.length), rfl, .of ?_, ?_⟩
            · rw [eD, bls_of (by rw [hla, List.length_map, hl]) ha]
            · have e : isTable (.tuple ds) = (ds.map (isRow ds.length)).all id := by
                show (decide (1 ≤ ds.length ∧ ds.length ≤ 6) && ds.all (isRow ds.length)) = _
                rw [decide_eq_true l1, Bool.true_and, List.all_map]
                rfl
              rw [e] at q
              exact q H1 (no_same k1)
      · have e : isTable (.tuple ds) = false := by
          show (decide (1 ≤ ds.length ∧ ds.length ≤ 6) && _) = _
          rw [decide_eq_false, Bool.false_and]
          simp at h1
          omega
        rw [e] at q
        exact ⟨_, rfl, q H (.refl H)⟩
    | _ => exact ifT rfl (q H (.refl H))
/-! ### what is led to -/
def kvT (S : List Nat) : List (Key × V) := S.map fun (j : Nat) => ((Sum.inl (j : Int) : Key), V.bl true)
theorem val_kvT : ∀ (S : List Nat) (j : Nat), valV (kvT S) (Sum.inl (j : Int) : Key) = if j ∈ S then some (.bl true) else none
  | [], j => rfl
  | i :: S, j => by
    by_cases e : i = j
    · subst e
      rw [if_pos List.mem_cons_self]
      exact valV_pos rfl
    · have h : valV (kvT (i :: S)) (Sum.inl (j : Int) : Key) = valV (kvT S) (Sum.inl (j : Int) : Key) := valV_neg fun z => e (by
        have := Sum.inl.inj z
        omega)
      rw [h, val_kvT S j]
      by_cases c : j ∈ S
      · rw [if_pos c, if_pos (List.mem_cons_of_mem _ c)]
      · rw [if_neg c, if_neg fun z => by
          rcases List.mem_cons.mp z with z | z
          · exact e z.symm
          · exact c z]
theorem put_kvT {S : List Nat} {j : Nat} (h : j ∉ S) : putK (kvT S) (Sum.inl (j : Int) : Key) (.bl true) = kvT (S ++ [j]) := by
  have e := val_kvT S j
  rw [if_neg h] at e
  rw [putK_new _ e]
  unfold kvT
  rw [List.map_append]
  rfl
def dlen (H : Hp) (a : Addr) : Nat := match H a with
  | some (.dK kvs) => kvs.length
  | _ => 0
def llen (H : Hp) (a : Addr) : Nat := match H a with
  | some (.lst xs) => xs.length
  | _ => 0
/-- rows of truths -/
def Links (K : PySem.W.Frag) (H : Hp) (a : Addr) (ls : List Addr) (B : Nat → Nat → Bool) : Prop := SqL K H a (ls.map V.ref) ∧ ∀ (i : Nat) l, ls[i]? = some l → SqL K H l ((List.range ls.length).map fun j => V.bl (B i j))
theorem Links.same {K : PySem.W.Frag} {H H' : Hp} {a : Addr} {ls : List Addr} {B : Nat → Nat → Bool} (s : Same H H') (h : Links K H a ls B) : Links K H' a ls B := ⟨s.seq h.1, fun i l e => s.seq (h.2 i l e)⟩
def spLeads (K : PySem.W.Frag) : Sp := fun vs H Q _ => ∃ (a : Addr) (ls : List Addr) (B : Nat → Nat → Bool), vs = [.ref a] ∧ Links K H a ls B ∧ 1 ≤ ls.length ∧ ls.length ≤ 1000 ∧
  ∀ H' b, Same H H' → (b = true ↔ ∀ j, j < ls.length → Reach (LE ls.length B) 0 j) → Q (.bl b) H'
/-- what is found, what is to be looked at -/
structure Fnd (n : Nat) (B : Nat → Nat → Bool) (S T : List Nat) : Prop where
  nd : S.Nodup
  ok : ∀ x ∈ S, x < n ∧ Reach (LE n B) 0 x
  z : 0 ∈ S
  sub : ∀ x ∈ T, x ∈ S
theorem ok_leads {f : Addr} {fd : FuncData} (F : Fun K "leads_to_all" "leads_to_all" sleads_to_all f fd) (M : Mb mg) : FnOk P w K mg base CX0 1 f fd ["links"] (spLeads K) := by
  refine F.ok cleads_to_all (fun vs H Q E h => ?_) (fun cdv A outer s H vs Q E hr h => ?_)
  · obtain ⟨a, ls, B, rfl, _⟩ := h
    rfl
  · obtain ⟨a, ls, B, rfl, hL, l1, l9, q⟩ := h
    have hu : (A.deeper (envOfC "leads_to_all" (defScope sleads_to_all) s.heap.objs.size f cdv)).units + 1 < cLine := Nat.lt_of_le_of_lt (Nat.add_le_add_left (by decide : 1 ≤ 64) _) hr.units
    refine ⟨_, (pss_cons (ps_par (i := 1) (j := 2) (by rfl) cleads_to_all.nd rfl rfl (by decide) rfl rfl (pa_cons (pe_disp (pps_cons pe_int pe_bl pps_nil) (by rfl) (by rfl) (fun z => by cases z) (by decide)) (pa_cons (pe_lst (pa_cons pe_int pa_nil)) pa_nil)) (by rfl))
 (pss_cons (ps_while PassesOwn.never (pt_truth (pv 2) (by intro _; rfl))
 (pss_cons (ps_set (i := 3) cleads_to_all.nd rfl (.inl rfl) (pe_bm0 PySem.F.plainAttrs_list PySem.F.slot_list_pop PySem.F.type_list_pop mt_pop (pv 2)))
 (pss_one (ps_for PassesOwn.never rfl (pi_enum (by rfl) M.enumerate (pa_cons (pe_ix ix_list (pv 0) (pv 3) (fun _ _ => rfl)) pa_nil)) (pg_tup rfl (pgs_cons (pg_name (i := 4) cleads_to_all.nd rfl (.inl rfl)) (pgs_cons (pg_name (i := 5) cleads_to_all.nd rfl (.inl rfl)) pgs_nil)))
 (pss_one (ps_if (PW.pt (pw_and (pt_val (pv 5)) (pw_and1 (pt_cmp (pc_dnotin hu (pv 4) (pv 1))))))
 (pss_cons (ps_dput hu (pv 1) (pv 4) pe_bl rfl)
 (pss_one (ps_expr (pe_bm PySem.F.plainAttrs_list PySem.F.slot_list_append PySem.F.type_list_append mt_append (pv 2) (pa_cons (pv 4) pa_nil)))))
 pss_nil))))))
 (pss_one (ps_ret (pe_cmpR op_eq (pe_callB call_lenD (by rfl) M.len (by decide +kernel) (pa_cons (pv 1) pa_nil)) (pe_callB call_len_seq (by rfl) M.len (by decide +kernel) (pa_cons (pv 0) pa_nil)) (nomark _)))))), ?_⟩
    refine fun fA nf => ?_
    refine ⟨upd_same, [((.inl 0 : Key), .bl true)], rfl, (by show 1 ≤ 15; decide), ?_⟩
    have s1 : Same H (upd (upd H fA (.dK [])) fA (.dK (mergeK [] [((.inl 0 : Key), .bl true)]))) := same_mut (same_new nf) nf
    have e1 : (upd (upd H fA (.dK [])) fA (.dK (mergeK [] [((.inl 0 : Key), .bl true)]))) fA = some (.dK (kvT [0])) := upd_same
    generalize upd (upd H fA (.dK [])) fA (.dK (mergeK [] [((.inl 0 : Key), .bl true)])) = H1 at s1 e1
    refine ⟨sz63 (by show 1 ≤ 1000; decide), fun wA nw => ⟨_, _, rfl, ?_⟩⟩
    have wf : fA ≠ wA := ne_of_none e1 nw
    have s2 : Same H (upd H1 wA (.lst [.int 0])) := s1.trans (same_new nw)
    have e2 : (upd H1 wA (.lst [.int 0])) fA = some (.dK (kvT [0])) := by rw [upd_ne wf]; exact e1
    dsimp only [tSeq]
    refine while_by (fun σ H' => ∃ S T y3 y4 y5, σ = [some (.ref a), some (.ref fA), some (.ref wA), y3, y4, y5] ∧ Same H H' ∧ H' fA = some (.dK (kvT S)) ∧ H' wA = some (.lst (T.map fun j : Nat => V.int j)) ∧ Fnd ls.length B S T ∧
      (∀ x ∈ S, x ∉ T → ∀ y, LE ls.length B x y → y ∈ S) ∧ 2 * (ls.length - S.length) + T.length ≤ 2 * ls.length) (fun _ H' => 2 * (ls.length - dlen H' fA) + llen H' wA) ?_ ?_ ?_
    · refine ⟨[0], [0], none, none, none, rfl, s2, e2, upd_same, ⟨by simp, fun x hx => ?_, List.mem_cons_self, fun x hx => hx⟩, fun x hx hn => absurd hx hn, by simp; omega⟩
      obtain rfl : x = 0 := by simpa using hx
      exact ⟨by omega, .refl⟩
    · rintro σ H2 ⟨S, T, y3, y4, y5, rfl, s3, ef, ew, Fn, cl, m0⟩
      refine ⟨_, rfl, _, .inl ⟨_, .of ew, rfl⟩, ?_⟩
      have hn := nodup_len ls.length S Fn.nd fun x hx => (Fn.ok x hx).1
      have tc : T = [] ∨ ∃ (T' : List Nat) (h : Nat), T = T' ++ [h] := by
        rcases List.eq_nil_or_concat T with e | ⟨T', h, e⟩
        · exact .inl e
        · exact .inr ⟨T', h, by rw [e, List.concat_eq_append]⟩
      rcases tc with rfl | ⟨T, h, rfl⟩
      · refine ifF (by simp) ⟨_, rfl, _, _, rfl, ef, _, rfl, a, _, rfl, .inl (s3.seq hL.1), rfl, ?_⟩
        refine q H2 _ s3 ?_
        have hS : ∀ j, j ∈ S ↔ Reach (LE ls.length B) 0 j := fun j =>
          ⟨fun hj => (Fn.ok j hj).2, fun hj => reach_of (S := fun x => x ∈ S) Fn.z (fun x y hx e => cl x hx (by simp) y e) hj⟩
        have hk : (kvT S).length = S.length := List.length_map _
        rw [hk, List.length_map, decide_eq_true_iff]
        constructor
        · intro z j hj
          have z' := V.int.inj z
          exact (hS j).mp (hn.2 (by omega) j hj)
        · intro z
          have hall : ∀ j, j < ls.length → j ∈ S := fun j hj => (hS j).mpr (z j hj)
          have hr' := nodup_len S.length (List.range ls.length) List.nodup_range
          have : ls.length ≤ S.length := by
            have h2 := List.Nodup.length_le_of_subset (l₁ := List.range ls.length) (l₂ := S) List.nodup_range fun j hj => hall j (List.mem_range.mp hj)
            rw [List.length_range] at h2
            exact h2
          rw [show S.length = ls.length by omega]
      · have hT : h ∈ S := Fn.sub h (by simp)
        have hlt := (Fn.ok h hT).1
        have hl : ls[h]? = some ls[h] := List.getElem?_eq_getElem hlt
        refine ifT (by simp) ?_
        refine ⟨_, rfl, .inl ⟨rfl, _, .of ew⟩, wA, _, .int h, rfl, rfl, ew, by simp, ?_⟩
        have ef2 : (upd H2 wA (.lst ((T ++ [h]).map fun j : Nat => V.int j).dropLast)) fA = some (.dK (kvT S)) := by rw [upd_ne wf]; exact ef
        have ew2 : (upd H2 wA (.lst ((T ++ [h]).map fun j : Nat => V.int j).dropLast)) wA = some (.lst (T.map fun j : Nat => V.int j)) := by
          rw [upd_same]
          simp
        have s4 : Same H (upd H2 wA (.lst ((T ++ [h]).map fun j : Nat => V.int j).dropLast)) := same_mut s3 (s1.free nw)
        generalize upd H2 wA (.lst ((T ++ [h]).map fun j : Nat => V.int j).dropLast) = H3 at ef2 ew2 s4
        refine ⟨_, rfl, _, rfl, a, _, (h : Int), .ref ls[h], rfl, rfl, s4.seq hL.1, atI_nat (by rw [List.getElem?_map, hl]; rfl), ls[h], _, rfl, s4.seq (hL.2 h _ hl), ?_⟩
        have ml : 2 * (ls.length - dlen H2 fA) + llen H2 wA = 2 * (ls.length - S.length) + (T.length + 1) := by
          unfold dlen llen
          rw [ef, ew]
          simp [kvT]
        rw [ml]
        have rl : ((List.range ls.length).map fun j => V.bl (B h j)).length = ls.length := by simp
        refine for_it (walk_enum (K := K) (a := ls[h]) (xs := (List.range ls.length).map fun j => V.bl (B h j)))
          (fun i σ H' => ∃ S2 T2 y4 y5, σ = [some (.ref a), some (.ref fA), some (.ref wA), some (.int h), y4, y5] ∧ Same H H' ∧ H' fA = some (.dK (kvT S2)) ∧ H' wA = some (.lst (T2.map fun j : Nat => V.int j)) ∧ Fnd ls.length B S2 T2 ∧ h ∈ S2 ∧
            (∀ x ∈ S2, x ∉ T2 → x ≠ h → ∀ y, LE ls.length B x y → y ∈ S2) ∧ (∀ y, y < i → LE ls.length B h y → y ∈ S2) ∧ 2 * (ls.length - S2.length) + T2.length + 1 ≤ 2 * (ls.length - S.length) + (T.length + 1))
          ?_ (fun i σ H' _ ⟨_, _, _, _, _, s5, _⟩ => s5.seq (hL.2 h _ hl)) ?_ ?_
        · refine ⟨S, T, y4, y5, rfl, s4, ef2, ew2, ⟨Fn.nd, Fn.ok, Fn.z, fun x hx => Fn.sub x (by simp [hx])⟩, hT, fun x hx hnt hne => cl x hx (by simp [hnt, hne]), fun y hy => absurd hy (Nat.not_lt_zero y), by omega⟩
        · rintro i x σ H4 H4' hi ⟨S2, T2, y4', y5', rfl, s5, ef5, ew5, Fn5, hS5, cl5, done5, m5⟩ ⟨t, v1, v2, rfl, nt, rfl, e1, e2⟩
          obtain rfl : V.int (i : Nat) = v1 := Option.some.inj e1
          rw [rl] at hi
          have e2' : V.bl (B h i) = v2 := by
            dsimp only at e2
            rw [List.getElem?_map, List.getElem?_range hi] at e2
            exact Option.some.inj e2
          subst e2'
          have s6 : Same H (upd H4 t (.tup [.int (i : Nat), .bl (B h i)])) := s5.trans (same_new nt)
          have ef6 : (upd H4 t (.tup [.int (i : Nat), .bl (B h i)])) fA = some (.dK (kvT S2)) := by rw [upd_ne (ne_of_none ef5 nt)]; exact ef5
          have ew6 : (upd H4 t (.tup [.int (i : Nat), .bl (B h i)])) wA = some (.lst (T2.map fun j : Nat => V.int j)) := by rw [upd_ne (ne_of_none ew5 nt)]; exact ew5
          have et6 : (upd H4 t (.tup [.int (i : Nat), .bl (B h i)])) t = some (.tup [.int (i : Nat), .bl (B h i)]) := upd_same
          generalize upd H4 t (.tup [.int (i : Nat), .bl (B h i)]) = H5 at s6 ef6 ew6 et6
          refine ⟨t, _, rfl, .of et6, rfl, _, _, rfl, _, _, rfl, rfl, ?_⟩
          have next : (∀ y, y < i + 1 → LE ls.length B h y → y ∈ S2) → ∃ S2 T2 y4 y5, ([some (.ref a), some (.ref fA), some (.ref wA), some (.int h), some (.int (i : Nat)), some (.bl (B h i))] : L2.St) = [some (.ref a), some (.ref fA), some (.ref wA), some (.int h), y4, y5] ∧ Same H H5 ∧ H5 fA = some (.dK (kvT S2)) ∧ H5 wA = some (.lst (T2.map fun j : Nat => V.int j)) ∧ Fnd ls.length B S2 T2 ∧ h ∈ S2 ∧
            (∀ x ∈ S2, x ∉ T2 → x ≠ h → ∀ y, LE ls.length B x y → y ∈ S2) ∧ (∀ y, y < i + 1 → LE ls.length B h y → y ∈ S2) ∧ 2 * (ls.length - S2.length) + T2.length + 1 ≤ 2 * (ls.length - S.length) + (T.length + 1) :=
            fun d => ⟨S2, T2, _, _, rfl, s6, ef6, ew6, Fn5, hS5, cl5, d, m5⟩
          refine ⟨_, rfl, _, rfl, ite2 (fun hb => ?_) (fun hb => ?_)⟩
          · refine ⟨_, rfl, _, rfl, fA, _, rfl, DGet.k (k := Sum.inl (i : Int)) ef6, _, rfl, ?_⟩
            rw [val_kvT]
            by_cases c : i ∈ S2
            · rw [if_pos c]
              refine ifF (by simp) (next fun y hy e => ?_)
              by_cases ey : y = i
              · rw [ey]
                exact c
              · exact done5 y (by omega) e
            · rw [if_neg c]
              refine ifT (by simp) ?_
              have nl := nodup_len ls.length S2 Fn5.nd fun x hx => (Fn5.ok x hx).1
              have hEi : LE ls.length B h i := ⟨hlt, hi, hb⟩
              have nd' : (S2 ++ [i]).Nodup := List.nodup_append.mpr ⟨Fn5.nd, by simp, fun x hx y hy e => by
                have : y = i := by simpa using hy
                rw [e, this] at hx
                exact c hx⟩
              have ok' : ∀ x ∈ S2 ++ [i], x < ls.length ∧ Reach (LE ls.length B) 0 x := fun x hx => by
                rcases List.mem_append.mp hx with hx | hx
                · exact Fn5.ok x hx
                · have : x = i := by simpa using hx
                  rw [this]
                  exact ⟨hi, (Fn5.ok h hS5).2.step hEi⟩
              have nl' := nodup_len ls.length (S2 ++ [i]) nd' fun x hx => (ok' x hx).1
              rw [List.length_append, List.length_singleton] at nl'
              refine ⟨_, rfl, _, rfl, fA, _, rfl, DPut.k (k := Sum.inl (i : Int)) ef6 (by
                have : (kvT S2).length = S2.length := List.length_map _
                exact sz63' (by omega)), ?_⟩
              rw [put_kvT c]
              have ew7 : (upd H5 fA (.dK (kvT (S2 ++ [i])))) wA = some (.lst (T2.map fun j : Nat => V.int j)) := by rw [upd_ne (Ne.symm wf)]; exact ew6
              have s7 : Same H (upd H5 fA (.dK (kvT (S2 ++ [i])))) := same_mut s6 nf
              have ef7 : (upd H5 fA (.dK (kvT (S2 ++ [i])))) fA = some (.dK (kvT (S2 ++ [i]))) := upd_same
              generalize upd H5 fA (.dK (kvT (S2 ++ [i]))) = H6 at ew7 s7 ef7
              have tl : T2.length ≤ ls.length + ls.length + 1 := by
                rw [List.length_append, List.length_singleton] at m0
                omega
              refine ⟨_, rfl, .inl ⟨rfl, _, .of ew7⟩, _, rfl, wA, _, _, rfl, rfl, ew7, by rw [List.length_map]; exact Nat.lt_of_le_of_lt (show T2.length ≤ 3000 by omega) (by decide), ?_⟩
              refine ⟨S2 ++ [i], T2 ++ [i], _, _, rfl, same_mut s7 (s1.free nw), by rw [upd_ne wf]; exact ef7, by rw [upd_same, List.map_append]; rfl, ⟨nd', ok', List.mem_append_left _ Fn5.z, fun x hx => ?_⟩, List.mem_append_left _ hS5, fun x hx hnt hne y e => ?_, fun y hy e => ?_, ?_⟩
              · rcases List.mem_append.mp hx with hx | hx
                · exact List.mem_append_left _ (Fn5.sub x hx)
                · exact List.mem_append_right _ hx
              · rcases List.mem_append.mp hx with hx | hx
                · exact List.mem_append_left _ (cl5 x hx (fun z => hnt (List.mem_append_left _ z)) hne y e)
                · exact absurd (List.mem_append_right _ hx) hnt
              · by_cases ey : y = i
                · rw [ey]
                  simp
                · exact List.mem_append_left _ (done5 y (by omega) e)
              · rw [List.length_append, List.length_append, List.length_singleton]
                omega
          · refine next fun y hy e => ?_
            by_cases ey : y = i
            · rw [ey] at e
              exact absurd e.2.2 hb
            · exact done5 y (by omega) e
        · rintro σ H4 ⟨S2, T2, y4', y5', rfl, s5, ef5, ew5, Fn5, hS5, cl5, done5, m5⟩
          refine ⟨⟨S2, T2, _, _, _, rfl, s5, ef5, ew5, Fn5, fun x hx hnt y e => ?_, by rw [List.length_append, List.length_singleton] at m0; omega⟩, ?_⟩
          · by_cases ex : x = h
            · rw [ex] at e
              exact done5 y (by rw [rl]; exact e.2.1) e
            · exact cl5 x hx hnt ex y e
          · have ml2 : 2 * (ls.length - dlen H4 fA) + llen H4 wA = 2 * (ls.length - S2.length) + T2.length := by
              unfold dlen llen
              rw [ef5, ew5]
              simp [kvT]
            rw [ml2]
            omega
    · rintro σ H2 Q1 Q2 hq ⟨v, e, k, t, q⟩
      exact ⟨v, e, k, t, hq _ _ q⟩
/-- does each place of a table lead to each -/
def spWhole : Sp := fun vs H Q _ => ∃ (W : Addr → Prop) (v : V) (m : List (List Rat)), vs = [v] ∧ Dq W H v (tabD m) ∧ Tab m ∧ ∀ H' b, Same H H' → (b = true ↔ Strong m) → Q (.bl b) H'
theorem ok_whole {f : Addr} {fd : FuncData} (F : Fun K "is_whole_table" "is_whole_table" sis_whole_table f fd) (M : Mb mg) (Dleads_to_all : Df P w K mg base 1 "leads_to_all" ["links"] (spLeads K)) :
    FnOk P w K mg base CX0 2 f fd ["table"] spWhole := by
  refine F.ok cis_whole_table (fun vs H Q E h => ?_) (fun cdv A outer s H vs Q E hr h => ?_)
  · obtain ⟨_, v, m, rfl, _⟩ := h
    rfl
  · obtain ⟨W, v, m, rfl, hd, T, q⟩ := h
    refine ⟨_, (pss_cons (ps_setLc (i := 1) (own := [("row", 2)]) rfl cis_whole_table.nd rfl rfl (sw_true rfl rfl rfl (by decide +kernel)) (pi_tup (pv 0)) (blkOk_by (own := [("row", 2)]) (N := nis_whole_table) (sc := defScope sis_whole_table) (by decide +kernel)) (fun _ _ _ _ _ => (pg_name (i := 2) cis_whole_table.nd rfl (.inl rfl))) (fun _ _ _ _ _ => pts_nil) (fun _ _ _ _ _ => (by exact (pe_lc (own := [("number", 3)]) rfl cis_whole_table.nd (pi_tupK (K := K) rfl (pv 2)) (blkOk_by (by rfl)) (fun _ _ _ _ _ => (pg_name (i := 3) cis_whole_table.nd rfl (.inl rfl))) (fun _ _ _ _ _ => pts_nil) (fun _ _ _ _ _ => (pe_cmpR op_gt (pe_ix (ix_tupK (K := K) rfl) (pv 3) pe_int (fun _ _ => rfl)) pe_int (nomark _)))))))
 (pss_cons (ps_setLc (i := 4) (own := [("column", 5)]) rfl cis_whole_table.nd rfl rfl (sw_true rfl rfl rfl (by decide +kernel)) (Bz.pi_zipN (by rfl) M.zip (pv 1)) (blkOk_by (own := [("column", 5)]) (N := nis_whole_table) (sc := defScope sis_whole_table) (by decide +kernel)) (fun _ _ _ _ _ => (pg_name (i := 5) cis_whole_table.nd rfl (.inl rfl))) (fun _ _ _ _ _ => pts_nil) (fun _ _ _ _ _ => (pe_callTy (call_lstK (K := K) rfl) (by rfl) M.list (by decide +kernel) (pa_cons (pv 5) pa_nil))))
 (pss_one (ps_ret (pe_and (pe_call Dleads_to_all.G (hr.mono (by first | decide | omega)) rfl Dleads_to_all.g Dleads_to_all.kp Dleads_to_all.b .nil pass0 (pa_cons (pv 1) pa_nil)) (pe_one (pe_call Dleads_to_all.G (hr.mono (by first | decide | omega)) rfl Dleads_to_all.g Dleads_to_all.kp Dleads_to_all.b .nil pass0 (pa_cons (pv 4) pa_nil)))))))), ?_⟩
    obtain ⟨a, xs, rfl, na, ea, el⟩ := hd.tupI
    have hl : xs.length = m.length := by
      have := el.length
      rwa [List.length_map] at this
    have l6 := T.l6
    have l1 := T.l1
    -- links
    refine ⟨_, rfl, a, rfl, ⟨xs, .of ea⟩, fun D nD => lc_rel (walk_tup (K := K) (a := a) (xs := xs)) No
      (fun H i y => ∃ l, y = .ref l ∧ l ≠ D ∧ H l = some (.lst ((List.range m.length).map fun j => .bl (posB m i j))))
      (fun H H' i v k r => ?_) nD (fun _ z => z.elim) (by omega) (fun H' k' => .of (k' _ _ id ea)) ?_ ?_⟩
    · obtain ⟨l, rfl, ne, e⟩ := r
      exact ⟨l, rfl, ne, k _ _ (fun z => z.elim id ne) e⟩
    · rintro i x H1 _ Q' hi k1 nD1 ⟨rfl, hx⟩ q'
      refine ⟨rfl, ?_⟩
      obtain ⟨d, hd2, dx⟩ := el.at hx
      obtain ⟨r, hr1, rfl⟩ : ∃ r, m[i]? = some r ∧ rowD r = d := by
        rw [List.getElem?_map] at hd2
        cases z : m[i]? with
        | none =>
          rw [z] at hd2
          cases hd2
        | some r =>
          rw [z] at hd2
          exact ⟨r, rfl, Option.some.inj hd2⟩
      obtain ⟨b, ys, rfl, nb, eb, er⟩ := (dx.keep (Kp.same (no_same k1))).tupI
      have fr := dq_row (K := K) er
      have rl := T.rows r (List.mem_of_getElem? hr1)
      have yl := fr.1
      refine ⟨_, rfl, b, rfl, ⟨ys, .of eb⟩, fun D2 nD2 => lc_rel (walk_tup (K := K) (a := b) (xs := ys)) No (fun H j y => y = .bl (posB m i j)) (fun _ _ _ _ _ r => r) nD2 (fun _ z => z.elim) (by omega)
        (fun H' k' => .of (k' _ _ id eb)) ?_ ?_⟩
      · rintro j y H2 _ Q2 hj k2 _ ⟨rfl, hy⟩ q2
        have hq : r[j]? = some (r[j]'(by omega)) := List.getElem?_eq_getElem (by omega)
        obtain ⟨p, rfl, hp⟩ := (fr.2 j y _ hy hq).same (no_same k2)
        refine ⟨rfl, _, rfl, p, _, 0, _, rfl, rfl, hp, rfl, _, _, rfl, rfl, q2 _ _ (.refl _) ?_⟩
        rw [posB_of hr1 hq]
        exact congrArg V.bl (decide_eq_decide.mpr Bq.num_pos)
      · rintro H2 acc k2 eD2 hla ha
        refine q' _ _ k2 ⟨D2, rfl, fun z => ?_, ?_⟩
        · rw [z] at nD2
          exact nD1 nD2
        · rw [eD2, list_of (n := m.length) (by omega) ha]
    · rintro H1 acc k1 eD hla ha
      obtain ⟨ls, rfl, hls⟩ := refs_of (P := fun i l => l ≠ D ∧ H1 l = some (.lst ((List.range m.length).map fun j => .bl (posB m i j)))) fun i v e => ha i v e
      rw [List.length_map] at hla
      have lsl : ls.length = m.length := by omega
      have s1 := no_same k1
      have rows : ∀ {H'}, Same H1 H' → ∀ (i : Nat) l, ls[i]? = some l → SqL K H' l ((List.range m.length).map fun j => V.bl (posB m i j)) := fun s i l e => .of (s _ _ (hls i l e).2)
      -- turned
      refine ⟨_, rfl, D, ls, rfl, .inr (.of eD), by omega, by omega, fun l hl => ?_, fun D2 nD2 => ?_⟩
      · obtain ⟨i, hi⟩ := List.mem_iff_getElem?.mp hl
        exact ⟨_, rows (.refl _) i l hi⟩
      refine lc_rel (Bz.walk_zipN (K := K) (as := ls) (rows := fun i => (List.range m.length).map fun j => V.bl (posB m i j)) (n := m.length) (by omega) (fun i _ => by simp)) No
        (fun H i y => ∃ l, y = .ref l ∧ l ≠ D2 ∧ H l = some (.lst ((List.range m.length).map fun j => .bl (posB m j i))))
        (fun H H' i v k r => ?_) nD2 (fun _ z => z.elim) (by omega) (fun H' k' => rows (no_same k')) ?_ ?_
      · obtain ⟨l, rfl, ne, e⟩ := r
        exact ⟨l, rfl, ne, k _ _ (fun z => z.elim id ne) e⟩
      · rintro i x H2 H3 Q2 hi k2 nD3 ⟨t, vs, rfl, nt, rfl, hvl, hvs⟩ q2
        refine ⟨rfl, _, rfl, t, vs, rfl, .inr (.of upd_same), fun l nl => q2 _ _ ((Kp.refl _).upd nt |>.upd ?_) ⟨l, rfl, ?_, ?_⟩⟩
        · exact (same_new nt).free nl
        · intro z
          rw [z] at nl
          exact nD3 ((same_new nt).free nl)
        · rw [upd_same]
          congr 2
          refine list_of (by omega) fun j v e => ?_
          have hj : j < ls.length := by
            rw [← hvl]
            exact (List.getElem?_eq_some_iff.mp e).1
          have e2 := hvs j _ (List.getElem?_eq_getElem hj)
          rw [e, List.getElem?_map, List.getElem?_range hi] at e2
          exact Option.some.inj e2
      · rintro H2 acc2 k2 eD2 hla2 ha2
        obtain ⟨ls2, rfl, hls2⟩ := refs_of (P := fun i l => l ≠ D2 ∧ H2 l = some (.lst ((List.range m.length).map fun j => .bl (posB m j i)))) fun i v e => ha2 i v e
        rw [List.length_map] at hla2
        have s2 := no_same k2
        refine ⟨_, rfl, D, ls, posB m, rfl, ⟨.of (s2 _ _ eD), fun i l e => by rw [lsl]; exact rows s2 i l e⟩, by omega, by omega, fun H3 b1 s3 hb1 => ⟨_, rfl, ite2 (fun c => ?_) (fun c => ?_)⟩⟩
        · refine ⟨_, rfl, D2, ls2, (fun x y => posB m y x), rfl, ⟨.of (s3 _ _ eD2), fun i l e => by rw [hla2]; exact .of (s3 _ _ (hls2 i l e).2)⟩, by omega, by omega, fun H4 b2 s4 hb2 => q H4 _ (((s1.trans s2).trans s3).trans s4) ?_⟩
          rw [strong_by T]
          rw [lsl] at hb1
          rw [hla2] at hb2
          exact ⟨fun z => ⟨hb1.mp c, hb2.mp z⟩, fun z => hb2.mpr z.2⟩
        · rw [lsl] at hb1
          exact q H3 false ((s1.trans s2).trans s3) ⟨(fun z => nomatch z), fun z => absurd (hb1.mpr ((strong_by T).mp z).1) c⟩
/-- is it a walk -/
def spWalk (n : Nat) : Sp := fun vs H Q _ => ∃ (W : Addr → Prop) (v : V) (d : PyData), vs = [v] ∧ Dq W H v d ∧ Bd n d ∧ ∀ H' b, Same H H' → (b = true ↔ IsWalk d) → Q (.bl b) H'
theorem ok_is_walk {f : Addr} {fd : FuncData} {n : Nat} (hn : n ≤ 1000) (F : Fun K "is_walk" "is_walk" sis_walk f fd) (M : Mb mg) (Z : Mp K mg) (Dis_table : Df P w K mg base 5 "is_table" ["value"] (spAskN isTable))
    (Dis_whole_table : Df P w K mg base 2 "is_whole_table" ["table"] spWhole) (Dtotal : Df P w K mg base 3 "total" ["fractions"] (spTotal K)) :
    FnOk P w K mg base CX0 6 f fd ["value"] (spWalk n) := by
  refine F.ok cis_walk (fun vs H Q E h => ?_) (fun cdv A outer s H vs Q E hr h => ?_)
  · obtain ⟨_, v, d, rfl, _⟩ := h
    rfl
  · obtain ⟨W, v, d, rfl, hd, hb, q⟩ := h
    have hu := hr.units
    refine ⟨_, (pss_cons (ps_if (PW.pt (pw_or (pt_not (pt_val (pe_call Dis_table.G (hr.mono (by first | decide | omega)) rfl Dis_table.g Dis_table.kp Dis_table.b .nil pass0 (pa_cons (pv 0) pa_nil)))) (pw_or1 (pt_not (pt_val (pe_call Dis_whole_table.G (hr.mono (by first | decide | omega)) rfl Dis_whole_table.g Dis_whole_table.kp Dis_whole_table.b .nil pass0 (pa_cons (pv 0) pa_nil)))))))
 (pss_one (ps_ret pe_bl))
 pss_nil)
 (pss_one (ps_ret (pe_callB (cr_all rfl) (by rfl) M.all (by decide +kernel) (pa_cons (pe_lc (own := [("row", 1)]) rfl cis_walk.nd (pi_tup (pv 0)) (blkOk_by (own := [("row", 1)]) (N := nis_walk) (sc := defScope sis_walk) (by decide +kernel)) (fun _ _ _ _ _ => (pg_name (i := 1) cis_walk.nd rfl (.inl rfl))) (fun _ _ _ _ _ => pts_nil) (fun _ _ _ _ _ => (pe_cmpR (op_eqDK (K := K) rfl hu) (pe_call Dtotal.G (hr.mono (by first | decide | omega)) rfl Dtotal.g Dtotal.kp Dtotal.b .nil pass0 (pa_cons (pv 1) pa_nil)) (pe_glob (v := .ref Z.oneA) rfl Z.one rfl) (nomark _)))) pa_nil))))), ?_⟩
    refine ⟨_, rfl, W, v, d, rfl, hd, fun H1 s1 => ⟨_, rfl, ?_⟩⟩
    cases hT : isTable d with
    | false =>
      refine ifT rfl (ifT rfl (q H1 false s1 ⟨(fun z => nomatch z), fun ⟨m, e, T, _⟩ => ?_⟩))
      rw [isTable_iff.mpr ⟨m, e, T⟩] at hT
      cases hT
    | true =>
      obtain ⟨m, rfl, T⟩ := isTable_iff.mp hT
      refine ifF (fun z => nomatch z) ⟨_, rfl, W, v, m, rfl, hd.keep (Kp.same s1), T, fun H2 b2 s2 h2 => ⟨_, rfl, ?_⟩⟩
      have s12 := s1.trans s2
      obtain ⟨a, xs, rfl, na, ea, el⟩ := hd.tupI
      have hl : xs.length = m.length := by
        have := el.length
        rwa [List.length_map] at this
      have l6 := T.l6
      have hsz := bd_tab.mp hb
      cases b2 with
      | false =>
        refine ifT rfl (q H2 false s12 ⟨(fun z => nomatch z), fun ⟨m', e, _, st, _⟩ => ?_⟩)
        obtain rfl := tabD_inj e
        exact h2.mpr st
      | true =>
        have st := h2.mp rfl
        refine ifF (fun z => nomatch z) ?_
        refine ⟨_, rfl, a, rfl, ⟨xs, .of (s12 _ _ ea)⟩, fun D nD => lc_rel (walk_tup (K := K) (a := a) (xs := xs)) No (fun H i y => ∃ b, y = .bl b ∧ (m.map fun r => decide (Bq.sumQ r = 1))[i]? = some b) (fun _ _ _ _ _ r => r) nD (fun _ z => z.elim) (by omega)
          (fun H' k' => .of (k' _ _ id (s12 _ _ ea))) ?_ ?_⟩
        · rintro i x H3 _ Q' hi k3 _ ⟨rfl, hx⟩ q'
          obtain ⟨d, hd2, dx⟩ := el.at hx
          obtain ⟨r, hr1, rfl⟩ := map_some hd2
          have hrm := List.mem_of_getElem? hr1
          have s3 := s12.trans (no_same k3)
          obtain ⟨b, ys, rfl, nb, eb, er⟩ := (dx.keep (Kp.same s3)).tupI
          have rl := T.rows r hrm
          refine ⟨rfl, _, rfl, b, ys, r, n, rfl, .of eb, dq_row er, hsz r hrm, ?_, fun v H4 s4 hv _ => ?_⟩
          · have : r.length * (n + 1) ≤ 6 * 1001 := Nat.mul_le_mul (by omega) (by omega)
            omega
          · refine ⟨frD (Bq.sumQ r), frD 1, fr_dp hv, fr_dp ⟨_, rfl, Z.oneT H4⟩, fr_shaped _, fr_shaped _, ?_⟩
            rw [fr_eqv]
            exact q' _ _ (Kp.same s4) ⟨_, rfl, by rw [List.getElem?_map, hr1]; rfl⟩
        · rintro H3 acc k3 eD hla ha
          refine ⟨D, m.map fun r => decide (Bq.sumQ r = 1), rfl, .of ?_, q H3 _ (s12.trans (no_same k3)) ?_⟩
          · rw [eD, bls_of (by rw [hla, List.length_map, hl]) ha]
          · rw [List.all_map, List.all_eq_true]
            constructor
            · intro z
              exact ⟨m, rfl, T, st, fun r hr => of_decide_eq_true (z r hr)⟩
            · rintro ⟨m', e, _, _, z⟩ r hr
              obtain rfl := tabD_inj e
              exact decide_eq_true (z r hr)
end
end Kx
/-! The law's own fractions. -/
namespace Kx
open PySem PySem.Spec PyProof.Rows L2 Bw
abbrev s_law_low : Stmt := topS 34
abbrev n_law_low : List Str := ["up", "down", "here", "there"]
theorem c_law_low : FnScope n_law_low ["up", "down"] (defScope s_law_low) :=
  ⟨rfl, rfl, rfl, by decide +kernel, rfl, by decide +kernel, by decide +kernel⟩

abbrev s_law_add : Stmt := topS 35
abbrev n_law_add : List Str := ["x", "y"]
theorem c_law_add : FnScope n_law_add ["x", "y"] (defScope s_law_add) :=
  ⟨rfl, rfl, rfl, by decide +kernel, rfl, by decide +kernel, by decide +kernel⟩

abbrev s_law_div : Stmt := topS 36
abbrev n_law_div : List Str := ["x", "y"]
theorem c_law_div : FnScope n_law_div ["x", "y"] (defScope s_law_div) :=
  ⟨rfl, rfl, rfl, by decide +kernel, rfl, by decide +kernel, by decide +kernel⟩

abbrev s_law_total : Stmt := topS 37
abbrev n_law_total : List Str := ["some", "found", "each"]
theorem c_law_total : FnScope n_law_total ["some"] (defScope s_law_total) :=
  ⟨rfl, rfl, rfl, by decide +kernel, rfl, by decide +kernel, by decide +kernel⟩

abbrev s_law_over : Stmt := topS 40
abbrev n_law_over : List Str := ["each", "whole", "x"]
theorem c_law_over : FnScope n_law_over ["each"] (defScope s_law_over) :=
  ⟨rfl, rfl, rfl, by decide +kernel, rfl, by decide +kernel, by decide +kernel⟩


section
variable {P : Program} {w : World} {K : PySem.W.Frag} {mg : Str → Option Value} {base : Heap}

def slotN (σ : L2.St) (i : Nat) : Nat := match σ[i]? with
  | some (some (.int t)) => t.toNat
  | _ => 0
theorem ok_lfrac {f : Addr} {fd : FuncData} (F : Fun K "_law_low" "_law_low" s_law_low f fd) (M : Mb mg) : FnOk P w K mg base CX0 1 f fd ["up", "down"] spLowest := by
  refine F.ok c_law_low (fun vs H Q E h => ?_) (fun cdv A outer s H vs Q E hr h => ?_)
  · obtain ⟨a, b, n, rfl, _⟩ := h
    rfl
  · obtain ⟨a, b, n, rfl, hb, hn, h9, q⟩ := h
    refine ⟨_, (pss_cons (ps_par (i := 2) (j := 3) (by rfl) c_law_low.nd rfl rfl (by decide) rfl rfl (pa_cons (pe_callB call_abs (by rfl) M.abs (by decide +kernel) (pa_cons (pv 0) pa_nil)) (pa_cons (pe_callB call_abs (by rfl) M.abs (by decide +kernel) (pa_cons (pv 1) pa_nil)) pa_nil)) (by rfl))
 (pss_cons (ps_while PassesOwn.never (pt_cmpR op_gt (pv 3) pe_int (nomark _))
 (pss_one (ps_par (i := 2) (j := 3) (by rfl) c_law_low.nd rfl rfl (by decide) rfl rfl (pa_cons (pv 3) (pa_cons (pe_op op_mod (pe_callTy call_int1 (by rfl) M.int (by decide +kernel) (pa_cons (pv 2) pa_nil)) (pv 3)) pa_nil)) (by rfl))))
 (pss_cons (ps_if (pt_cmpR op_lt (pv 1) pe_int (nomark _))
 (pss_one (ps_ret (pe_tup (pa_cons (pe_op op_fdiv (pe_op op_sub pe_int (pv 0)) (pv 2)) (pa_cons (pe_op op_fdiv (pe_op op_sub pe_int (pv 1)) (pv 2)) pa_nil)))))
 pss_nil)
 (pss_one (ps_ret (pe_tup (pa_cons (pe_op op_fdivW (pv 0) (pv 2)) (pa_cons (pe_op op_fdivW (pv 1) (pv 2)) pa_nil)))))))), ?_⟩
    refine ⟨_, rfl, a, rfl, _, rfl, b, rfl, _, _, rfl, ?_⟩
    dsimp only [tSeq]
    refine while_by (fun σ H' => H' = H ∧ ∃ x y : Nat, σ = [some (.int a), some (.int b), some (.int x), some (.int y)] ∧ Nat.gcd x y = Nat.gcd a.natAbs b.natAbs) (fun σ _ => slotN σ 3) ?_ ?_ ?_
    · refine ⟨rfl, a.natAbs, b.natAbs, ?_, rfl⟩
      have e1 : (if b < 0 then -b else b) = ((b.natAbs : Nat) : Int) := by
        split <;> omega
      have e2 : (if a < 0 then -a else a) = ((a.natAbs : Nat) : Int) := by
        split <;> omega
      rw [e1, e2]
      rfl
    · rintro σ H1 ⟨rfl, x, y, rfl, hg⟩
      refine ⟨_, rfl, _, _, rfl, rfl, _, rfl, ite2 (fun c => ?_) (fun c => ?_)⟩
      · have hy : 0 < y := by
          have := of_decide_eq_true c
          omega
        refine ⟨_, rfl, _, rfl, .inl ⟨_, rfl, _, rfl, _, _, rfl, rfl, (show (0 : Int) < y by omega), ?_⟩⟩
        refine ⟨_, _, rfl, ⟨rfl, y, x % y, rfl, ?_⟩, ?_⟩
        · rw [← hg, Nat.gcd_comm x y, Nat.gcd_rec y x]
          exact Nat.gcd_comm _ _
        · show (((x : Int) % (y : Int))).toNat < ((y : Int)).toNat
          have h1 : (x : Int) % (y : Int) = ((x % y : Nat) : Int) := rfl
          rw [h1]
          have := Nat.mod_lt x hy
          omega
      · have hy : y = 0 := by
          simp at c
          omega
        subst hy
        rw [Nat.gcd_zero_right] at hg
        have hg0 : 0 < Nat.gcd a.natAbs b.natAbs := Nat.gcd_pos_of_pos_right _ (by omega)
        have hg2 : Nat.gcd a.natAbs b.natAbs ≤ b.natAbs := Nat.gcd_le_right _ (by omega)
        have hn0 : 0 < n := by
          cases n with
          | zero => omega
          | succ n => omega
        subst hg
        have cd : CDivW a ((Nat.gcd a.natAbs b.natAbs : Nat) : Int) := wide_div (b := n) (by omega) (by omega) hn0 h9
        refine ⟨_, rfl, _, _, rfl, rfl, _, rfl, ifF (by simp; omega) ?_⟩
        refine ⟨_, rfl, _, rfl, _, _, rfl, rfl, cd, _, rfl, _, rfl, _, _, rfl, rfl, cd, sz63 (by show 2 ≤ 1000; decide), fun p hp => ?_⟩
        have q' := q p hp
        rw [Bq.q_num hb, Bq.q_den hb] at q'
        exact q'
    · rintro σ H2 Q1 Q2 hq ⟨v, e, i, j, e1, e2, k, e3, q⟩
      exact ⟨v, e, i, j, e1, e2, k, e3, hq _ _ q⟩
theorem ok_lplus {f : Addr} {fd : FuncData} (F : Fun K "_law_add" "_law_add" s_law_add f fd) (M : Mb mg) (Dlaw_low : Df P w K mg base 1 "_law_low" ["up", "down"] spLowest) : FnOk P w K mg base CX0 2 f fd ["x", "y"] (spPlus K) := by
  refine F.ok c_law_add (fun vs H Q E h => ?_) (fun cdv A outer s H vs Q E hr h => ?_)
  · obtain ⟨v, u, p, q, m, n, rfl, _⟩ := h
    rfl
  · obtain ⟨v, u, p, r, m, n, rfl, ⟨a, rfl, ha⟩, ⟨b, rfl, hb⟩, sp, sr, hmn, q⟩ := h
    refine ⟨_, (pss_one (ps_ret (pe_call Dlaw_low.G (hr.mono (by first | decide | omega)) rfl Dlaw_low.g Dlaw_low.kp Dlaw_low.b .nil pass0 (pa_cons (pe_op op_add (pe_op op_mulW (pe_ix ix_tup (pv 0) pe_int (fun _ _ => rfl)) (pe_ix ix_tup (pv 1) pe_int (fun _ _ => rfl))) (pe_op op_mulW (pe_ix ix_tup (pv 1) pe_int (fun _ _ => rfl)) (pe_ix ix_tup (pv 0) pe_int (fun _ _ => rfl)))) (pa_cons (pe_op op_mulW (pe_ix ix_tup (pv 0) pe_int (fun _ _ => rfl)) (pe_ix ix_tup (pv 1) pe_int (fun _ _ => rfl))) pa_nil))))), ?_⟩
    have m0 := sz_pos sp
    have n0 := sz_pos sr
    refine ⟨_, rfl, a, _, 0, _, rfl, rfl, ha, rfl, _, rfl, b, _, 1, _, rfl, rfl, hb, rfl, _, _, rfl, rfl, mulW sp.1 (Bq.den_abs sr) m0 n0 hmn, ?_⟩
    refine ⟨_, rfl, b, _, 0, _, rfl, rfl, hb, rfl, _, rfl, a, _, 1, _, rfl, rfl, ha, rfl, _, _, rfl, rfl, mulW sr.1 (Bq.den_abs sp) n0 m0 (by omega), ?_⟩
    refine ⟨_, _, rfl, rfl, ?_⟩
    refine ⟨_, rfl, a, _, 1, _, rfl, rfl, ha, rfl, _, rfl, b, _, 1, _, rfl, rfl, hb, rfl, _, _, rfl, rfl, mulW (Bq.den_abs sp) (Bq.den_abs sr) m0 n0 hmn, ?_⟩
    refine ⟨_, _, m + n, rfl, Bq.dens_pos p r, Bq.dens sp sr, hmn, fun x hx => ?_⟩
    have q' := q x hx
    rw [← Bq.q_add] at q'
    exact q'
/-- one fraction over another one, above 0 -/
def spOver (K : PySem.W.Frag) : Sp := fun vs H Q _ => ∃ (v u : V) (p q : Rat) (m n : Nat), vs = [v, u] ∧ FrR K H v p ∧ FrR K H u q ∧ Bq.Sz m p ∧ Bq.Sz n q ∧ m + n ≤ 9000 ∧ 0 < q ∧
  ∀ a, H a = none → Q (.ref a) (upd H a (.tup [.int (p / q).num, .int (p / q).den]))
theorem ok_lover {f : Addr} {fd : FuncData} (F : Fun K "_law_div" "_law_div" s_law_div f fd) (M : Mb mg) (Dlaw_low : Df P w K mg base 1 "_law_low" ["up", "down"] spLowest) : FnOk P w K mg base CX0 2 f fd ["x", "y"] (spOver K) := by
  refine F.ok c_law_div (fun vs H Q E h => ?_) (fun cdv A outer s H vs Q E hr h => ?_)
  · obtain ⟨v, u, p, q, m, n, rfl, _⟩ := h
    rfl
  · obtain ⟨v, u, p, r, m, n, rfl, ⟨a, rfl, ha⟩, ⟨b, rfl, hb⟩, sp, sr, hmn, r0, q⟩ := h
    refine ⟨_, (pss_one (ps_ret (pe_call Dlaw_low.G (hr.mono (by first | decide | omega)) rfl Dlaw_low.g Dlaw_low.kp Dlaw_low.b .nil pass0 (pa_cons (pe_op op_mulW (pe_ix ix_tup (pv 0) pe_int (fun _ _ => rfl)) (pe_ix ix_tup (pv 1) pe_int (fun _ _ => rfl))) (pa_cons (pe_op op_mulW (pe_ix ix_tup (pv 0) pe_int (fun _ _ => rfl)) (pe_ix ix_tup (pv 1) pe_int (fun _ _ => rfl))) pa_nil))))), ?_⟩
    have m0 := sz_pos sp
    have n0 := sz_pos sr
    have rn := Bq.num_pos.mpr r0
    refine ⟨_, rfl, a, _, 0, _, rfl, rfl, ha, rfl, _, rfl, b, _, 1, _, rfl, rfl, hb, rfl, _, _, rfl, rfl, mulW sp.1 (Bq.den_abs sr) m0 n0 hmn, ?_⟩
    refine ⟨_, rfl, a, _, 1, _, rfl, rfl, ha, rfl, _, rfl, b, _, 0, _, rfl, rfl, hb, rfl, _, _, rfl, rfl, mulW (Bq.den_abs sp) sr.1 m0 n0 hmn, ?_⟩
    refine ⟨_, _, m + n, rfl, Int.mul_pos (Bq.den_pos p) rn, Bq.mul_lt (Bq.den_abs sp) sr.1, hmn, fun x hx => ?_⟩
    have q' := q x hx
    rw [← Bq.q_div] at q'
    exact q'
/-- the sum of a row, a new fraction -/
def spSum (K : PySem.W.Frag) (S : Hp → Addr → List V → Prop) : Sp := fun vs H Q _ => ∃ (a : Addr) (xs : List V) (qs : List Rat) (n : Nat), vs = [.ref a] ∧ S H a xs ∧ FrRow K H xs qs ∧ (∀ q ∈ qs, Bq.Sz n q) ∧ 1 + qs.length * (n + 1) ≤ 9000 ∧
  ∀ v H', Same H H' → Dq (Old H) H' v (frD (Bq.sumQ qs)) → Q v H'
theorem ok_ltotalT {f : Addr} {fd : FuncData} (F : Fun K "_law_total" "_law_total" s_law_total f fd) (M : Mb mg) (Dlaw_add : Df P w K mg base 2 "_law_add" ["x", "y"] (spPlus K)) :
    FnOk P w K mg base CX0 3 f fd ["some"] (spSum K (SqT K)) := by
  refine F.ok c_law_total (fun vs H Q E h => ?_) (fun cdv A outer s H vs Q E hr h => ?_)
  · obtain ⟨a, xs, qs, n, rfl, _⟩ := h
    rfl
  · obtain ⟨a, xs, qs, n, rfl, ha, hx, hs, hn, q⟩ := h
    refine ⟨_, (pss_cons (ps_set (i := 1) c_law_total.nd rfl (.inl rfl) (pe_tup (pa_cons pe_int (pa_cons pe_int pa_nil))))
 (pss_cons (ps_for PassesOwn.never rfl (pi_tup (pv 0)) (pg_name (i := 2) c_law_total.nd rfl (.inl rfl))
 (pss_one (ps_set (i := 1) c_law_total.nd rfl (.inl rfl) (pe_call Dlaw_add.G (hr.mono (by first | decide | omega)) rfl Dlaw_add.g Dlaw_add.kp Dlaw_add.b .nil pass0 (pa_cons (pv 1) (pa_cons (pv 2) pa_nil))))))
 (pss_one (ps_ret (pv 1))))), ?_⟩
    refine ⟨sz63 (by show 2 ≤ 1000; decide), fun z0 n0 => ?_⟩
    refine ⟨_, rfl, a, rfl, ⟨_, same_tup (same_new n0) ha⟩, for_tup (K := K) (a := a) (xs := xs)
      (fun i σ H' => ∃ v y, σ = [some (.ref a), some v, y] ∧ Same H H' ∧ Dq (Old H) H' v (frD (Bq.sumQ (qs.take i))))
      ⟨_, none, rfl, same_new n0, fr_dq (fun z => z n0) upd_same⟩ (fun i σ H' _ ⟨_, _, _, s, _⟩ => same_tup s ha) ?_ ?_⟩
    · rintro i x σ H1 hi ⟨v, y, rfl, s1, hv⟩
      have hl : i < qs.length := by
        rw [← hx.1]
        exact (List.getElem?_eq_some_iff.mp hi).1
      have e : qs[i]? = some qs[i] := List.getElem?_eq_getElem hl
      have hb : i * (n + 1) + (n + 1) ≤ qs.length * (n + 1) := by
        rw [← Nat.succ_mul]
        exact Nat.mul_le_mul_right _ hl
      refine ⟨_, rfl, _, rfl, v, x, _, _, 1 + i * (n + 1), n, rfl, hv.fr, (hx.2 i x _ hi e).same s1, sz_take hs i (by omega), hs _ (List.mem_of_getElem? e), by omega, fun p hp => ?_⟩
      rw [← sum_take e]
      exact ⟨_, _, rfl, s1.trans (same_new hp), fr_dq (fun z => z (s1.free hp)) upd_same⟩
    · rintro σ H1 ⟨v, y, rfl, s1, hv⟩
      rw [hx.1, List.take_length] at hv
      exact ⟨_, rfl, q v H1 s1 hv⟩
theorem ok_ltotalL {f : Addr} {fd : FuncData} (F : Fun K "_law_total" "_law_total" s_law_total f fd) (M : Mb mg) (Dlaw_add : Df P w K mg base 2 "_law_add" ["x", "y"] (spPlus K)) :
    FnOk P w K mg base CX0 3 f fd ["some"] (spSum K (SqL K)) := by
  refine F.ok c_law_total (fun vs H Q E h => ?_) (fun cdv A outer s H vs Q E hr h => ?_)
  · obtain ⟨a, xs, qs, n, rfl, _⟩ := h
    rfl
  · obtain ⟨a, xs, qs, n, rfl, ha, hx, hs, hn, q⟩ := h
    refine ⟨_, (pss_cons (ps_set (i := 1) c_law_total.nd rfl (.inl rfl) (pe_tup (pa_cons pe_int (pa_cons pe_int pa_nil))))
 (pss_cons (ps_for PassesOwn.never rfl (pi_list (pv 0)) (pg_name (i := 2) c_law_total.nd rfl (.inl rfl))
 (pss_one (ps_set (i := 1) c_law_total.nd rfl (.inl rfl) (pe_call Dlaw_add.G (hr.mono (by first | decide | omega)) rfl Dlaw_add.g Dlaw_add.kp Dlaw_add.b .nil pass0 (pa_cons (pv 1) (pa_cons (pv 2) pa_nil))))))
 (pss_one (ps_ret (pv 1))))), ?_⟩
    refine ⟨sz63 (by show 2 ≤ 1000; decide), fun z0 n0 => ?_⟩
    refine ⟨_, rfl, a, rfl, ⟨_, (same_new n0).seq ha⟩, for_list (K := K) (a := a) (xs := xs)
      (fun i σ H' => ∃ v y, σ = [some (.ref a), some v, y] ∧ Same H H' ∧ Dq (Old H) H' v (frD (Bq.sumQ (qs.take i))))
      ⟨_, none, rfl, same_new n0, fr_dq (fun z => z n0) upd_same⟩ (fun i σ H' _ ⟨_, _, _, s, _⟩ => s.seq ha) ?_ ?_⟩
    · rintro i x σ H1 hi ⟨v, y, rfl, s1, hv⟩
      have hl : i < qs.length := by
        rw [← hx.1]
        exact (List.getElem?_eq_some_iff.mp hi).1
      have e : qs[i]? = some qs[i] := List.getElem?_eq_getElem hl
      have hb : i * (n + 1) + (n + 1) ≤ qs.length * (n + 1) := by
        rw [← Nat.succ_mul]
        exact Nat.mul_le_mul_right _ hl
      refine ⟨_, rfl, _, rfl, v, x, _, _, 1 + i * (n + 1), n, rfl, hv.fr, (hx.2 i x _ hi e).same s1, sz_take hs i (by omega), hs _ (List.mem_of_getElem? e), by omega, fun p hp => ?_⟩
      rw [← sum_take e]
      exact ⟨_, _, rfl, s1.trans (same_new hp), fr_dq (fun z => z (s1.free hp)) upd_same⟩
    · rintro σ H1 ⟨v, y, rfl, s1, hv⟩
      rw [hx.1, List.take_length] at hv
      exact ⟨_, rfl, q v H1 s1 hv⟩
/-- each of a row over the sum of all -/
def spOverSum (K : PySem.W.Frag) : Sp := fun vs H Q _ => ∃ (a : Addr) (xs : List V) (qs : List Rat) (n : Nat), vs = [.ref a] ∧ SqL K H a xs ∧ FrRow K H xs qs ∧ (∀ q ∈ qs, Bq.Sz n q) ∧ qs.length ≤ 100 ∧ 1 + qs.length * (n + 1) + n ≤ 9000 ∧ 0 < Bq.sumQ qs ∧
  ∀ v H', Same H H' → Dq (Old H) H' v (rowD (qs.map fun q => q / Bq.sumQ qs)) → Q v H'
theorem ok_loversum {f : Addr} {fd : FuncData} (F : Fun K "_law_over" "_law_over" s_law_over f fd) (M : Mb mg) (Dlaw_div : Df P w K mg base 2 "_law_div" ["x", "y"] (spOver K))
    (Dlaw_total : Df P w K mg base 3 "_law_total" ["some"] (spSum K (SqL K))) : FnOk P w K mg base CX0 4 f fd ["each"] (spOverSum K) := by
  refine F.ok c_law_over (fun vs H Q E h => ?_) (fun cdv A outer s H vs Q E hr h => ?_)
  · obtain ⟨a, xs, qs, n, rfl, _⟩ := h
    rfl
  · obtain ⟨a, xs, qs, n, rfl, ha, hx, hs, hl, hn, h0, q⟩ := h
    refine ⟨_, (pss_cons (ps_set (i := 1) c_law_over.nd rfl (.inr rfl) (pe_call Dlaw_total.G (hr.mono (by first | decide | omega)) rfl Dlaw_total.g Dlaw_total.kp Dlaw_total.b .nil pass0 (pa_cons (pv 0) pa_nil)))
 (pss_one (ps_ret (pe_callTy call_tuple_of (by rfl) M.tuple (by decide +kernel) (pa_cons (pe_lc (own := [("x", 2)]) rfl c_law_over.nd (pi_list (pv 0)) (blkOk_by (own := [("x", 2)]) (N := n_law_over) (sc := defScope s_law_over) (by decide +kernel)) (fun _ _ _ _ _ => (pg_name (i := 2) c_law_over.nd rfl (.inl rfl))) (fun _ _ _ _ _ => pts_nil) (fun _ _ _ _ _ => (pe_call Dlaw_div.G (hr.mono (by first | decide | omega)) rfl Dlaw_div.g Dlaw_div.kp Dlaw_div.b .nil pass0 (pa_cons (pv 2) (pa_cons (pv 1) pa_nil))))) pa_nil))))), ?_⟩
    refine ⟨_, rfl, a, xs, qs, n, rfl, ha, hx, hs, by omega, fun u H1 s1 hu => ?_⟩
    have su : Bq.Sz (1 + qs.length * (n + 1)) (Bq.sumQ qs) := by
      have := sz_take hs qs.length (Nat.le_refl _)
      rwa [List.take_length] at this
    have xl := hx.1
    refine ⟨_, rfl, a, rfl, ⟨xs, s1.seq ha⟩, fun D nD => lc_rel (walk_list (K := K) (a := a) (xs := xs)) No (fun H' i y => ∃ p, qs[i]? = some p ∧ Dq (fun b => Old H b ∨ b = D) H' y (frD (p / Bq.sumQ qs)))
      (fun H H' i v k r => ?_) nD (fun _ z => z.elim) (by omega) (fun H' k' => (s1.trans (no_same k')).seq ha) ?_ ?_⟩
    · obtain ⟨p, e, h⟩ := r
      exact ⟨p, e, h.keep (k.mono fun b z => z.elim (fun z => z.elim) .inr)⟩
    · rintro i x H2 _ Q' hi k2 nD2 ⟨rfl, hx2⟩ q'
      have e : qs[i]? = some (qs[i]'(by omega)) := List.getElem?_eq_getElem (by omega)
      have s2 := no_same k2
      refine ⟨rfl, _, rfl, _, rfl, x, u, _, _, n, 1 + qs.length * (n + 1), rfl, (hx.2 i x _ hx2 e).same (s1.trans s2), hu.fr.same s2, hs _ (List.mem_of_getElem? e), su, by omega, h0, fun p hp => ?_⟩
      refine q' _ _ (Kp.new hp) ⟨_, e, fr_dq (fun z => ?_) upd_same⟩
      rcases z with z | z
      · exact z ((s1.trans s2).free hp)
      · rw [z] at hp
        exact nD2 hp
    · rintro H2 acc k2 eD hla ha2
      have s2 := no_same k2
      refine ⟨D, acc, rfl, .inl ⟨.of eD, fun t nt => q _ _ ((s1.trans s2).trans (same_new nt)) (.tup (fun z => z ((s1.trans s2).free nt)) upd_same ?_)⟩⟩
      have all : DqAll (fun b => Old H b ∨ b = D) H2 acc ((qs.map fun q => q / Bq.sumQ qs).map frD) := dqAll_of (by rw [List.length_map, List.length_map]; omega) fun i v e => by
        obtain ⟨p, e2, h⟩ := ha2 i v e
        exact ⟨_, by rw [List.getElem?_map, List.getElem?_map, e2]; rfl, h⟩
      exact (all.keep (Kp.new nt)).weak fun b z => .inl z
end
end Kx
/-! Part 10. Ears laid one after another: each place leads to each. Plain mathematics. -/
namespace Bw
def Lk (E : List (Nat × Nat)) (a b : Nat) : Prop := (a, b) ∈ E
theorem lk_app {E F : List (Nat × Nat)} {a b : Nat} (h : Reach (Lk E) a b) : Reach (Lk (E ++ F)) a b := h.mono fun _ _ e => List.mem_append_left _ e
structure Ears (n : Nat) (Kn L : List Nat) (E : List (Nat × Nat)) : Prop where
  nd : (Kn ++ L).Nodup
  len : Kn.length + L.length = n
  lt : ∀ x ∈ Kn ++ L, x < n
  elt : ∀ e ∈ E, e.1 < n ∧ e.2 < n
  con : ∀ a ∈ Kn, ∀ b ∈ Kn, Reach (Lk E) a b
  ne : Kn ≠ []
/-- within one ear: what it has come to, where it is -/
structure Ear (n : Nat) (Kn Fr L : List Nat) (E : List (Nat × Nat)) (cur : Nat) : Prop where
  nd : (Kn ++ (Fr ++ L)).Nodup
  len : Kn.length + (Fr.length + L.length) = n
  lt : ∀ x ∈ Kn ++ (Fr ++ L), x < n
  elt : ∀ e ∈ E, e.1 < n ∧ e.2 < n
  con : ∀ a ∈ Kn, ∀ b ∈ Kn, Reach (Lk E) a b
  fr : ∀ x ∈ Fr, (∃ k ∈ Kn, Reach (Lk E) k x) ∧ Reach (Lk E) x cur
  src : ∃ k ∈ Kn, Reach (Lk E) k cur
  clt : cur < n
theorem Ears.start {n : Nat} {Kn L : List Nat} {E : List (Nat × Nat)} (h : Ears n Kn L E) {c : Nat} (hc : c ∈ Kn) : Ear n Kn [] L E c :=
  ⟨h.nd, by have := h.len; simp; omega, h.lt, h.elt, h.con, fun x hx => by simp at hx, ⟨c, hc, .refl⟩, h.lt c (List.mem_append_left _ hc)⟩
theorem perm_erase : ∀ (L : List Nat) (i t : Nat), L[i]? = some t → List.Perm (t :: L.eraseIdx i) L
  | [], _, _, h => by simp at h
  | a :: L, 0, t, h => by
    have : a = t := by simpa using h
    rw [this]
    exact List.Perm.refl _
  | a :: L, i + 1, t, h => by
    have ih := perm_erase L i t (by simpa using h)
    exact (List.Perm.swap a t (L.eraseIdx i)).trans (ih.cons a)
theorem Ear.step {n : Nat} {Kn Fr L : List Nat} {E : List (Nat × Nat)} {cur i t : Nat} (h : Ear n Kn Fr L E cur) (e : L[i]? = some t) : Ear n Kn (Fr ++ [t]) (L.eraseIdx i) (E ++ [(cur, t)]) t := by
  obtain ⟨hi, et⟩ := List.getElem?_eq_some_iff.mp e
  have pm : List.Perm (t :: L.eraseIdx i) L := perm_erase L i t e
  have pm2 : List.Perm (Kn ++ ((Fr ++ [t]) ++ L.eraseIdx i)) (Kn ++ (Fr ++ L)) := by
    rw [List.append_assoc]
    exact (pm.append_left Fr).append_left Kn
  have htn : t < n := h.lt t (List.mem_append_right _ (List.mem_append_right _ (List.mem_of_getElem? e)))
  have one : Reach (Lk (E ++ [(cur, t)])) cur t := .one (List.mem_append_right _ (by simp))
  obtain ⟨k, hk, rk⟩ := h.src
  have kt : Reach (Lk (E ++ [(cur, t)])) k t := (lk_app rk).trans one
  refine ⟨pm2.nodup_iff.mpr h.nd, ?_, fun x hx => h.lt x (pm2.mem_iff.mp hx), fun e he => ?_, fun a ha b hb => lk_app (h.con a ha b hb), fun x hx => ?_, ⟨k, hk, kt⟩, htn⟩
  · have := pm2.length_eq
    simp only [List.length_append] at this ⊢
    have h2 := h.len
    omega
  · rcases List.mem_append.mp he with he | he
    · exact h.elt e he
    · have : e = (cur, t) := by simpa using he
      rw [this]
      exact ⟨h.clt, htn⟩
  · rcases List.mem_append.mp hx with hx | hx
    · obtain ⟨⟨k2, hk2, r2⟩, r3⟩ := h.fr x hx
      exact ⟨⟨k2, hk2, lk_app r2⟩, (lk_app r3).trans one⟩
    · have : x = t := by simpa using hx
      rw [this]
      exact ⟨⟨k, hk, kt⟩, .refl⟩
theorem Ear.close {n : Nat} {Kn Fr L : List Nat} {E : List (Nat × Nat)} {cur last : Nat} (h : Ear n Kn Fr L E cur) (hl : last ∈ Kn) : Ears n (Kn ++ Fr) L (E ++ [(cur, last)]) := by
  have one : Reach (Lk (E ++ [(cur, last)])) cur last := .one (List.mem_append_right _ (by simp))
  have to : ∀ a ∈ Kn ++ Fr, Reach (Lk (E ++ [(cur, last)])) a last := fun a ha => by
    rcases List.mem_append.mp ha with ha | ha
    · exact lk_app (h.con a ha last hl)
    · exact (lk_app (h.fr a ha).2).trans one
  have fro : ∀ b ∈ Kn ++ Fr, Reach (Lk (E ++ [(cur, last)])) last b := fun b hb => by
    rcases List.mem_append.mp hb with hb | hb
    · exact lk_app (h.con last hl b hb)
    · obtain ⟨k, hk, r⟩ := (h.fr b hb).1
      exact (lk_app (h.con last hl k hk)).trans (lk_app r)
  refine ⟨by rw [List.append_assoc]; exact h.nd, by have := h.len; simp only [List.length_append]; omega, by rw [List.append_assoc]; exact h.lt, fun e he => ?_, fun a ha b hb => (to a ha).trans (fro b hb), fun z => ?_⟩
  · rcases List.mem_append.mp he with he | he
    · exact h.elt e he
    · have : e = (cur, last) := by simpa using he
      rw [this]
      exact ⟨h.clt, h.lt last (List.mem_append_left _ hl)⟩
  · rw [List.append_eq_nil_iff] at z
    rw [z.1] at hl
    simp at hl
/-- all that is left is none: each place leads to each -/
theorem Ears.done {n : Nat} {Kn : List Nat} {E : List (Nat × Nat)} (h : Ears n Kn [] E) : (∀ e ∈ E, e.1 < n ∧ e.2 < n) ∧ ∀ a b, a < n → b < n → Reach (Lk E) a b := by
  have nd := h.nd
  rw [List.append_nil] at nd
  have hl := h.len
  have all := (nodup_len n Kn nd fun x hx => h.lt x (List.mem_append_left _ hx)).2 (by simpa using hl)
  exact ⟨h.elt, fun a b ha hb => h.con a (all a ha) b (all b hb)⟩
end Bw
/-! Part 11. Whole numbers in rows, each over its row's sum. Plain mathematics. -/
namespace Bw
open PySem
def rowQ (row : List Nat) : List Rat := row.map fun k => ((k : Nat) : Rat)
def overQ (row : List Nat) : List Rat := (rowQ row).map fun q => q / Bq.sumQ (rowQ row)
def walkM (M : List (List Nat)) : List (List Rat) := M.map overQ
theorem sum_nonneg : ∀ {qs : List Rat}, (∀ q ∈ qs, 0 ≤ q) → 0 ≤ Bq.sumQ qs
  | [], _ => by simp [Bq.sumQ]
  | q :: r, h => by
    have h1 := h q List.mem_cons_self
    have h2 := sum_nonneg (qs := r) fun x hx => h x (List.mem_cons_of_mem _ hx)
    rw [Bq.sumQ]
    grind
theorem sum_pos : ∀ {qs : List Rat}, (∀ q ∈ qs, 0 ≤ q) → (∃ q ∈ qs, 0 < q) → 0 < Bq.sumQ qs
  | [], _, h => by simp at h
  | q :: r, h, h2 => by
    have h1 := h q List.mem_cons_self
    have h3 := sum_nonneg (qs := r) fun x hx => h x (List.mem_cons_of_mem _ hx)
    rw [Bq.sumQ]
    obtain ⟨x, hx, h0⟩ := h2
    rcases List.mem_cons.mp hx with rfl | hx
    · grind
    · have := sum_pos (qs := r) (fun x hx => h x (List.mem_cons_of_mem _ hx)) ⟨x, hx, h0⟩
      grind
theorem sum_over (s : Rat) : ∀ qs : List Rat, Bq.sumQ (qs.map fun q => q / s) = Bq.sumQ qs / s
  | [] => by
    simp [Bq.sumQ]
    grind
  | q :: r => by
    rw [List.map_cons, Bq.sumQ, sum_over s r, Bq.sumQ]
    grind
theorem nat_nonneg (k : Nat) : (0 : Rat) ≤ ((k : Nat) : Rat) := by
  exact_mod_cast Nat.zero_le k
theorem nat_pos {k : Nat} (h : 0 < k) : (0 : Rat) < ((k : Nat) : Rat) := by
  exact_mod_cast h
theorem rowQ_nonneg {row : List Nat} : ∀ q ∈ rowQ row, (0 : Rat) ≤ q := fun q hq => by
  obtain ⟨k, _, rfl⟩ := List.mem_map.mp hq
  exact nat_nonneg k
theorem row_pos {row : List Nat} (h : ∃ k ∈ row, 0 < k) : 0 < Bq.sumQ (rowQ row) := by
  obtain ⟨k, hk, h0⟩ := h
  exact sum_pos rowQ_nonneg ⟨_, List.mem_map.mpr ⟨k, hk, rfl⟩, nat_pos h0⟩
theorem div_pos {a b : Rat} (ha : 0 < a) (hb : 0 < b) : 0 < a / b := by
  rw [Rat.div_def]
  exact Rat.mul_pos ha (Rat.inv_pos.mpr hb)
theorem div_nonneg {a b : Rat} (ha : 0 ≤ a) (hb : 0 < b) : 0 ≤ a / b := by
  rw [Rat.div_def]
  exact Rat.mul_nonneg ha (Rat.le_of_lt (Rat.inv_pos.mpr hb))
theorem nat_sz {n k : Nat} (h : k < 2 ^ n) (h1 : 1 ≤ n) : Bq.Sz n ((k : Nat) : Rat) := by
  refine ⟨?_, ?_⟩
  · rw [Rat.num_natCast]
    simpa using h
  · rw [Rat.den_natCast]
    exact Nat.one_lt_two_pow (by omega)
theorem nat_num (k : Nat) : ((k : Nat) : Rat).num = (k : Int) := Rat.num_natCast k
theorem nat_den (k : Nat) : ((k : Nat) : Rat).den = 1 := Rat.den_natCast k

/-- what is drawn is a walk -/
theorem walkM_tab {M : List (List Nat)} {n : Nat} (h1 : 1 ≤ n) (h6 : n ≤ 6) (hl : M.length = n) (hr : ∀ row ∈ M, row.length = n) (hp : ∀ row ∈ M, ∃ k ∈ row, 0 < k) : Tab (walkM M) := by
  have l : (walkM M).length = n := by
    unfold walkM
    rw [List.length_map, hl]
  refine ⟨by omega, by omega, fun r hr' => ?_, fun r hr' q hq => ?_⟩
  · obtain ⟨row, hm, rfl⟩ := List.mem_map.mp hr'
    unfold overQ rowQ
    rw [List.length_map, List.length_map, hr row hm, l]
  · obtain ⟨row, hm, rfl⟩ := List.mem_map.mp hr'
    obtain ⟨p, hp2, rfl⟩ := List.mem_map.mp hq
    exact div_nonneg (rowQ_nonneg p hp2) (row_pos (hp row hm))
theorem walkM_sum {M : List (List Nat)} (hp : ∀ row ∈ M, ∃ k ∈ row, 0 < k) : ∀ r ∈ walkM M, Bq.sumQ r = 1 := fun r hr' => by
  obtain ⟨row, hm, rfl⟩ := List.mem_map.mp hr'
  have := row_pos (hp row hm)
  unfold overQ
  rw [sum_over]
  grind
theorem walkM_ed {M : List (List Nat)} (hp : ∀ row ∈ M, ∃ k ∈ row, 0 < k) {a b : Nat} {row : List Nat} {k : Nat} (h1 : M[a]? = some row) (h2 : row[b]? = some k) (h3 : 0 < k) : Ed (walkM M) a b := by
  refine ⟨overQ row, ((k : Nat) : Rat) / Bq.sumQ (rowQ row), ?_, ?_, div_pos (nat_pos h3) (row_pos (hp row (List.mem_of_getElem? h1)))⟩
  · unfold walkM
    rw [List.getElem?_map, h1]
    rfl
  · unfold overQ rowQ
    rw [List.getElem?_map, List.getElem?_map, h2]
    rfl
theorem walkM_sz {M : List (List Nat)} {n : Nat} (h6 : n ≤ 6) (hr : ∀ row ∈ M, row.length = n) (hk : ∀ row ∈ M, ∀ k ∈ row, k < 2 ^ 20) (hp : ∀ row ∈ M, ∃ k ∈ row, 0 < k) : ∀ r ∈ walkM M, ∀ q ∈ r, Bq.Sz 160 q := fun r hr' q hq => by
  obtain ⟨row, hm, rfl⟩ := List.mem_map.mp hr'
  obtain ⟨p, hp2, rfl⟩ := List.mem_map.mp hq
  obtain ⟨k, hk2, rfl⟩ := List.mem_map.mp hp2
  have s1 : ∀ q ∈ rowQ row, Bq.Sz 20 q := fun q hq => by
    obtain ⟨k, hk3, rfl⟩ := List.mem_map.mp hq
    exact nat_sz (hk row hm k hk3) (by omega)
  have s2 : ∀ (qs : List Rat), (∀ q ∈ qs, Bq.Sz 20 q) → Bq.Sz (1 + qs.length * 21) (Bq.sumQ qs) := fun qs => by
    induction qs with
    | nil => exact fun _ => Bq.Sz.zero
    | cons q r ih =>
      intro h
      have h1 := (h q List.mem_cons_self).add (ih fun x hx => h x (List.mem_cons_of_mem _ hx))
      rw [Bq.sumQ]
      refine h1.mono ?_
      rw [List.length_cons, Nat.succ_mul]
      omega
  have h3 := (nat_sz (hk row hm k hk2) (by omega)).div (s2 _ s1) (Bq.num_pos.mpr (row_pos (hp row hm)))
  refine h3.mono ?_
  have hl : (rowQ row).length = n := by
    unfold rowQ
    rw [List.length_map, hr row hm]
  rw [hl]
  have : n * 21 ≤ 6 * 21 := Nat.mul_le_mul_right _ h6
  omega
end Bw
/-! Part 12. A tuple turned round; a tuple once. -/
namespace Bw
open PySem PySem.Spec PyProof.Rows L2
section
variable {prog : Program} {w : World} {A : Around} {E : Value → Shared → Prop} {s : Shared}
theorem slice_back {sl : Addr} {u : Tok} {n : Nat} {Q : Int × Int × Nat → Shared → Prop} (hs : s.heap.IsSliceOf sl .none .none (.int (-1) u)) (h : Q ((n : Int) - 1, -1, n) s) :
    wpAny (model prog w) A (Builtin.Slice.sliceApplied (.ref sl) (pure (n : Int))) Q E s := by
  obtain ⟨os, hos, hcs, hds⟩ := id hs
  unfold Builtin.Slice.sliceApplied Builtin.Slice.sliceFields
  refine wpAny_bind (wpAny_bind (wpAny_field hos hds (x := .none) rfl (wpAny_bind (wpAny_field hos hds (x := .none) rfl (wpAny_bind (wpAny_field hos hds (x := .int (-1) u) rfl (wpAny_pure ?_)))))))
  refine wpAny_bind (HT.slicePart_ (.int (-1) u) ?_)
  show wpAny _ _ (if ((-1 : Int) == 0) = true then _ else _) _ _ s
  rw [if_neg (by decide)]
  refine wpAny_bind (HT.slicePart_ .none (wpAny_bind (HT.slicePart_ .none (wpAny_bind (wpAny_pure ?_)))))
  show wpAny _ _ (match Builtin.Slice.sliceAdjust none none (-1) (n : Int) with | (lo, hi) => pure (lo, (-1 : Int), Builtin.Slice.slicePlaces lo hi (-1))) _ _ s
  have e1 : Builtin.Slice.sliceAdjust none none (-1) (n : Int) = ((n : Int) - 1, -1) := by
    unfold Builtin.Slice.sliceAdjust
    simp
  rw [e1]
  have e2 : Builtin.Slice.slicePlaces ((n : Int) - 1) (-1) (-1) = n := by
    unfold Builtin.Slice.slicePlaces
    rw [if_neg (by omega)]
    split
    · simp
    · simp
      omega
  dsimp only
  rw [e2]
  exact wpAny_pure h
theorem back_pick (xs : Array Value) : ((List.range xs.size).filterMap fun (m : Nat) => xs[(((xs.size : Nat) : Int) - 1 + (m : Int) * (-1)).toNat]?).toArray = xs.toList.reverse.toArray := by
  congr 1
  have e : (fun (m : Nat) => xs[(((xs.size : Nat) : Int) - 1 + (m : Int) * (-1)).toNat]?) = fun m => xs.toList[xs.size - 1 - m]? := by
    funext m
    rw [Array.getElem?_toList]
    congr 1
    omega
  rw [e]
  have key : ∀ (l : List Value) (k : Nat), k ≤ l.length → (List.range k).filterMap (fun m => l[l.length - 1 - m]?) = (l.drop (l.length - k)).reverse := fun l k => by
    induction k with
    | zero => intro _; simp
    | succ k ih =>
      intro h
      rw [List.range_succ, List.filterMap_append, ih (by omega)]
      have h2 : l.length - (k + 1) < l.length := by omega
      have h3 : l.drop (l.length - (k + 1)) = l[l.length - (k + 1)] :: l.drop (l.length - k) := by
        rw [List.drop_eq_getElem_cons h2]
        congr 2
        omega
      rw [h3, List.reverse_cons]
      have h4 : l.length - 1 - k = l.length - (k + 1) := by omega
      have h5 : List.filterMap (fun m => l[l.length - 1 - m]?) [k] = [l[l.length - (k + 1)]] := by
        rw [List.filterMap_cons, h4, List.getElem?_eq_getElem h2]
        rfl
      rw [h5]
  have := key xs.toList xs.size (by simp)
  rw [Array.length_toList] at this
  rw [this]
  simp
theorem item_back {t sl : Addr} {items : Array Value} {u : Tok} {Q : Value → Shared → Prop} (ht : IsTup s.heap t items) (hs : s.heap.IsSliceOf sl .none .none (.int (-1) u))
    (h : Q (.ref s.heap.objs.size) { s with heap := s.heap.push { cls := .type "tuple", data := .seq items.toList.reverse.toArray } }) (hz : items.size ≤ sizeLine) :
    wpAny (model prog w) A (getItem (.ref t) (.ref sl)) Q E s := by
  have hlen : sizeOk (.seq items.toList.reverse.toArray) := by
    show items.toList.reverse.toArray.size ≤ sizeLine
    rw [List.size_toArray, List.length_reverse, Array.length_toList]
    exact hz
  obtain ⟨os, hos, hcs, hds⟩ := id hs
  have hTs : s.TypeIs (.ref sl) "slice" := ⟨os, hos, hcs⟩
  unfold getItem
  try with_reducible refine wpAny_holding ?_
  first | refine wpAny_bind (wpAny_pure ?_) | skip
  refine wpAny_bind (wpAny_sequenceKey ht.typeIs (by decide) ?_)
  refine wpAny_bind (wpAny_callSpecial?_slot (name := Str.ofString "__getitem__") ht.typeIs PyProof.Rows.slot_tuple_getitem (wpAny_call_entry PyProof.Rows.slot_tuple_getitem ht.typeIs PyProof.Rows.entry_tuple_getitem ?_ (PyProof.Rows.args_tuple_getitem _ _)))
  show wpAny _ _ (Builtin.Tuple.tupleItemsOf (.ref t) >>= _) _ _ s
  refine wpAny_bind (PyProof.Rows.tupleItemsOf_ ht (wpAny_bind (wpAny_typeOf hTs ?_)))
  rw [if_pos (by decide)]
  refine wpAny_bind (slice_back hs ?_)
  have hno : ¬ ((((items.size : Nat) : Int) - 1 == 0 && (-1 : Int) == 1 && items.size == items.size) = true) := by simp
  show wpAny _ _ (if (((items.size : Nat) : Int) - 1 == 0 && (-1 : Int) == 1 && items.size == items.size) = true then _ else _) _ _ s
  rw [if_neg hno, back_pick]
  first
    | exact wpAny_bind (m := Builtin.Tuple.tupleExact _) (wpAny_newObj_type (wpAny_pure ⟨_, rfl, wpAny_pure h⟩) hlen)
    | exact wpAny_bind (m := Builtin.Tuple.tupleExact _) (wpAny_newObj_type (wpAny_bind (wpAny_pure (wpAny_pure ⟨_, rfl, wpAny_pure h⟩))) hlen)
    | exact wpAny_bind (wpAny_bind (m := Builtin.Tuple.tupleExact _) (wpAny_newObj_type (wpAny_pure (wpAny_pure ⟨_, rfl, wpAny_pure h⟩)) hlen))
    | exact wpAny_bind (wpAny_bind (m := Builtin.Tuple.tupleExact _) (wpAny_newObj_type (wpAny_pure ⟨_, rfl, wpAny_pure h⟩) hlen))
end

/-- t[::-1], t a tuple -/
def tRevT (K : PySem.W.Frag) (te : TE) : TE := fun σ H Q => te σ H fun x H1 => ∃ a xs, x = .ref a ∧ SqT K H1 a xs ∧ ∀ p, H1 p = none → Q (.ref p) (upd H1 p (.tup xs.reverse))
section
variable {X : Cx}
theorem pe_revT {e : Expr} {te : TE} {k : Nat} {p1 p2 p3 pos : Pos} (he : PE X e te) : PE X (.Subscript e (.Slice none none (some (.UnaryOp .USub (.Constant (.int 1) k p1) p2)) p3) pos) (tRevT X.K te) := by
  refine ⟨fun pins s σ H Q I h => ?_⟩
  refine Subscript_ (thn (he.run pins s σ H _ I h) fun v s1 ⟨x, H1, I1, r1, q1⟩ => ?_)
  obtain ⟨a, xs, ex, hx, q⟩ := q1
  subst ex
  obtain rfl : v = Value.ref a := r1
  have hst : PO X (some (.UnaryOp .USub (.Constant (.int 1) k p1) p2)) (tPart (tUn (rU fun i => .int (-i)) (tC (.int 1)))) := po_some (pe_un un_neg pe_int)
  refine wpAny_Slice (thn (po_none.run pins s1 σ H1 (fun o H2 => o = none ∧ H2 = H1) I1 ⟨rfl, rfl⟩) fun vl s2 ⟨lo, H2, I2, pl, el, e2⟩ => ?_)
  subst el e2
  refine thn (po_none.run pins s2 σ H2 (fun o H3 => o = none ∧ H3 = H2) I2 ⟨rfl, rfl⟩) fun vu s3 ⟨hi, H3, I3, pu, eu, e3⟩ => ?_
  subst eu e3
  refine thn (hst.run pins s3 σ H3 (fun o H4 => o = some (-1) ∧ H4 = H3) I3 ⟨1, rfl, -1, rfl, rfl, rfl⟩) fun vs s4 ⟨o, H4, I4, ps, eo, e4⟩ => ?_
  subst eo e4
  cases pl
  cases pu
  obtain ⟨u, rfl⟩ : ∃ u, vs = Value.int (-1) u := by
    cases ps
    exact ⟨_, rfl⟩
  have I5 : Inv X pins σ H4 { s4 with heap := s4.heap.push { cls := .type "slice", data := .fields #[.none, .none, .int (-1) u] } } := I4.kept (t' := s4.toks) fun b ob q => Heap.get?_push_of_some _ q
  obtain ⟨its, r, ht, hz⟩ := I5.tuple hx
  have hlen := r.length
  show wpAny (model X.prog X.w) X.A (subscriptTail e (.Slice none none (some (.UnaryOp .USub (.Constant (.int 1) k p1) p2)) p3) (.ref a) (.ref s4.heap.objs.size)) (EP X pins σ Q) X.xe { s4 with heap := s4.heap.push { cls := .type "slice", data := .fields #[.none, .none, .int (-1) u] } }
  refine tail_any (ops := [.ref a, .ref s4.heap.objs.size]) ht.typeIs PyProof.Rows.slot_tuple_getitem.lookup ?_ (by with_unfolding_all rfl)
  refine item_back ht (Heap.IsSliceOf.new _ .none .none (.int (-1) u)) ?_ (by rw [List.size_toArray]; omega)
  refine ⟨.ref _, _, I5.laid (t' := s4.toks) (o := .tup xs.reverse) (fun b ob q => Heap.get?_push_of_some _ q) (Nat.le_refl _) ?_, rfl, q _ (I5.hok.fresh (Nat.le_refl _))⟩
  exact ⟨by rw [List.length_reverse]; exact hz, _, r.reverse, IsTup.new _ _⟩

/-! ### t * k, k from 1 on -/
theorem mul_once (l : Addr) (items : Array Value) (n : Nat) (sl : Array (Option Value)) (dd : Option Addr) (u : Tok) :
    Meets (Builtin.«tuple.__mul__» ⟨[.ref l, .int 1 u], []⟩) (fun _ R s => s.heap.get? l = some { cls := .type "tuple", dict := dd, data := .seq items n, slots := sl } ∧ R (.ok (.ret (.ref l))) s) :=
  .of_wp fun prog w A R s h => by
    obtain ⟨hp, g, d, tk, os⟩ := s
    obtain ⟨hl, h⟩ := h
    have f1 := AutoSeq1.idx_int
    wp_walk using wpAny_loadPart' hl
    exact ⟨_, rfl, h⟩
def rRepA (K : PySem.W.Frag) : R2 := fun x y H Q => ∃ l k xs, x = .ref l ∧ y = .int k ∧ SqT K H l xs ∧ xs ≠ [] ∧ 1 ≤ k ∧ k ≤ 1000 ∧ xs.length ≤ 1000 ∧ (k = 1 → Q (.ref l) H) ∧ (2 ≤ k → ∀ p, H p = none → Q (.ref p) (upd H p (.tup (List.replicate k.toNat xs).flatten)))
theorem op_repA : OpR X (binaryOp .Mult) (rRepA X.K) := by
  intro pins s σ H x y v u Q I rx ry h
  obtain ⟨l, k, xs, rfl, rfl, hT, hne, h1, h2, hz, q1, q2⟩ := h
  by_cases hk : k = 1
  · subst hk
    obtain rfl : v = Value.ref l := rx
    obtain ⟨t, rfl⟩ := ry
    obtain ⟨its, r, ⟨⟨cls, dd, data, sl⟩, ho, hc, n, hd⟩, hs⟩ := I.tuple hT
    simp only at hc hd
    subst hc hd
    exact wpAny_binaryOp_repeat_ref (T := "tuple") (U := "int") (by decide) ⟨_, ho, rfl⟩ (fun s' => typeIs_int s' 1 t) noFill_tuple_mul F.fills_int_mul F.slot_int_rmul repeat_tuple F.slot_int_index.lookup
      (call_meets F.slot_int_rmul (typeIs_int s 1 t) F.entry_int_rmul (F.args_int_rmul_2 _ _) (int_rmul_tuple 1 t l its.toArray n dd sl)
        ⟨ho, rfl, ⟨_, ho, rfl⟩, call_meets F.slot_tuple_mul ⟨_, ho, rfl⟩ F.entry_tuple_mul (F.args_tuple_mul_2 _ _) (mul_once l its.toArray n sl dd t) ⟨ho, ⟨.ref l, H, I, rfl, q1 rfl⟩⟩⟩)
  · exact op_repT pins s σ H _ _ v u Q I rx ry ⟨l, k, xs, rfl, rfl, hT, hne, by omega, h2, hz, q2 (by omega)⟩
theorem op_repAK {K : PySem.W.Frag} (h : X.K = K) : OpR X (binaryOp .Mult) (rRepA K) := by
  subst h
  exact op_repA
end
end Bw
/-! Part 12. Places left out one by one from a square of whole numbers; the shares that come of it. Plain mathematics. -/
namespace Bw
/-- f 0 + .. + f (n - 1) -/
def sN : Nat → (Nat → Nat) → Nat
  | 0, _ => 0
  | n + 1, f => sN n f + f n
theorem sN_congr {f g : Nat → Nat} : ∀ {n : Nat}, (∀ i, i < n → f i = g i) → sN n f = sN n g
  | 0, _ => rfl
  | n + 1, h => by
    rw [sN, sN, sN_congr fun i hi => h i (by omega), h n (by omega)]
theorem sN_lin (f h : Nat → Nat) (g c : Nat) : ∀ n, sN n (fun j => f j * g + c * h j) = sN n f * g + c * sN n h
  | 0 => by simp [sN]
  | n + 1 => by
    simp only [sN]
    rw [sN_lin f h g c n, Nat.add_mul, Nat.mul_add]
    omega
theorem sN_mul (f : Nat → Nat) (g : Nat) : ∀ n, sN n (fun j => f j * g) = sN n f * g
  | 0 => by simp [sN]
  | n + 1 => by
    simp only [sN]
    rw [sN_mul f g n, Nat.add_mul]
theorem sN_add (f h : Nat → Nat) : ∀ n, sN n (fun j => f j + h j) = sN n f + sN n h
  | 0 => by simp [sN]
  | n + 1 => by
    simp only [sN]
    rw [sN_add f h n]
    omega
theorem sN_pos {f : Nat → Nat} : ∀ {n i : Nat}, i < n → 0 < f i → 0 < sN n f
  | 0, i, h, _ => by omega
  | n + 1, i, h, h0 => by
    rw [sN]
    by_cases c : i = n
    · subst c
      omega
    · have := sN_pos (f := f) (n := n) (by omega) h0
      omega
theorem sN_lt {f : Nat → Nat} {b : Nat} : ∀ {n : Nat}, (∀ i, i < n → f i < b) → 0 < b → sN n f ≤ n * b
  | 0, _, _ => by simp [sN]
  | n + 1, h, h0 => by
    rw [sN, Nat.succ_mul]
    have h1 := sN_lt (f := f) (n := n) (fun i hi => h i (by omega)) h0
    have h2 := h n (by omega)
    omega
/-- a step from x to y, k places -/
def EdN (k : Nat) (M : Nat → Nat → Nat) (x y : Nat) : Prop := x < k ∧ y < k ∧ 0 < M x y
def StrN (k : Nat) (M : Nat → Nat → Nat) : Prop := ∀ a b, a < k → b < k → Reach (EdN k M) a b
theorem reach_first {E : Nat → Nat → Prop} {a b : Nat} (h : Reach E a b) (ne : a ≠ b) : ∃ c, c ≠ a ∧ E a c := by
  induction h with
  | refl => exact absurd rfl ne
  | step h e ih =>
    rename_i b c
    by_cases z : a = b
    · subst z
      exact ⟨c, Ne.symm ne, e⟩
    · exact ih z
theorem reach_last {E : Nat → Nat → Prop} {a b : Nat} (h : Reach E a b) (ne : a ≠ b) : ∃ c, c ≠ b ∧ E c b := by
  induction h with
  | refl => exact absurd rfl ne
  | step h e ih =>
    rename_i x c
    by_cases z : x = c
    · subst z
      exact ih ne
    · exact ⟨x, z, e⟩
/-- what goes out of the last place, l, to those ahead -/
abbrev gN (M : Nat → Nat → Nat) (l : Nat) : Nat := sN l (M l)
/-- the last place, l, left out -/
def el (M : Nat → Nat → Nat) (l : Nat) : Nat → Nat → Nat := fun i j => M i j * gN M l + M i l * M l j
theorem g_pos {M : Nat → Nat → Nat} {l : Nat} (h : StrN (l + 1) M) (hl : 1 ≤ l) : 0 < gN M l := by
  obtain ⟨c, hc, _, c2, c3⟩ := reach_first (h l 0 (by omega) (by omega)) (by omega)
  exact sN_pos (i := c) (by omega) c3
theorem in_pos {M : Nat → Nat → Nat} {l : Nat} (h : StrN (l + 1) M) (hl : 1 ≤ l) : ∃ i, i < l ∧ 0 < M i l := by
  obtain ⟨c, hc, c1, _, c3⟩ := reach_last (h 0 l (by omega) (by omega)) (by omega)
  exact ⟨c, by omega, c3⟩
theorem out_pos {M : Nat → Nat → Nat} {k i : Nat} (h : StrN k M) (hk : 2 ≤ k) (hi : i < k) : 0 < sN k (M i) := by
  by_cases z : i = 0
  · obtain ⟨c, hc, _, c2, c3⟩ := reach_first (h i 1 hi (by omega)) (by omega)
    exact sN_pos c2 c3
  · obtain ⟨c, hc, _, c2, c3⟩ := reach_first (h i 0 hi (by omega)) (by omega)
    exact sN_pos c2 c3
theorem el_str {M : Nat → Nat → Nat} {l : Nat} (h : StrN (l + 1) M) (hl : 1 ≤ l) : StrN l (el M l) := by
  have g0 := g_pos h hl
  have big : ∀ {x y}, 0 < M x y → 0 < el M l x y := fun {x y} z => by
    have := Nat.mul_pos z g0
    unfold el
    omega
  have via : ∀ {x y}, 0 < M x l → 0 < M l y → 0 < el M l x y := fun {x y} z z2 => by
    have := Nat.mul_pos z z2
    unfold el
    omega
  intro a b ha hb
  have key : ∀ y, Reach (EdN (l + 1) M) a y → (y < l → Reach (EdN l (el M l)) a y) ∧ (y = l → ∃ x, x < l ∧ Reach (EdN l (el M l)) a x ∧ 0 < M x l) := fun y r => by
    induction r with
    | refl => exact ⟨fun _ => .refl, fun z => by omega⟩
    | step r e ih =>
      rename_i y z
      obtain ⟨e1, e2, e3⟩ := e
      constructor
      · intro hz
        by_cases hy : y < l
        · exact (ih.1 hy).step ⟨hy, hz, big e3⟩
        · have hy2 : y = l := by omega
          obtain ⟨x, hx, rx, mx⟩ := ih.2 hy2
          rw [hy2] at e3
          exact rx.step ⟨hx, hz, via mx e3⟩
      · intro hz
        by_cases hy : y < l
        · rw [hz] at e3
          exact ⟨y, hy, ih.1 hy, e3⟩
        · exact ih.2 (by omega)
  exact (key b (h a b (by omega) (by omega))).1 hb
theorem el_sum (M : Nat → Nat → Nat) (l i : Nat) : sN l (el M l i) = sN (l + 1) (M i) * gN M l := by
  have h := sN_lin (M i) (M l) (gN M l) (M i l) l
  show sN l (fun j => M i j * gN M l + M i l * M l j) = _
  rw [h, sN, Nat.add_mul]
theorem el_lt {M : Nat → Nat → Nat} {l b : Nat} (hl : l ≤ 5) (h : ∀ i j, i ≤ l → j ≤ l → M i j < 2 ^ b) : ∀ i j, i < l → j < l → el M l i j < 2 ^ (2 * b + 4) := by
  intro i j hi hj
  have p0 : 0 < 2 ^ b := Nat.pow_pos (by omega)
  have hg : gN M l ≤ 5 * 2 ^ b := Nat.le_trans (sN_lt (fun k hk => h l k (by omega) (by omega)) p0) (Nat.mul_le_mul_right _ hl)
  have h1 := h i j (by omega) (by omega)
  have h2 := h i l (by omega) (by omega)
  have h3 := h l j (by omega) (by omega)
  have e : 2 ^ (2 * b + 4) = 16 * (2 ^ b * 2 ^ b) := by
    rw [← Nat.pow_add, Nat.pow_add, Nat.mul_comm, show b + b = 2 * b by omega]
  rw [e]
  have m1 : M i j * gN M l ≤ 2 ^ b * (5 * 2 ^ b) := Nat.mul_le_mul (by omega) hg
  have m2 : M i l * M l j ≤ 2 ^ b * 2 ^ b := Nat.mul_le_mul (by omega) (by omega)
  have m3 : 2 ^ b * (5 * 2 ^ b) = 5 * (2 ^ b * 2 ^ b) := by rw [Nat.mul_left_comm]
  have p2 : 0 < 2 ^ b * 2 ^ b := Nat.mul_pos p0 p0
  unfold el
  omega
/-- numbers by which what comes is what goes -/
def sol : Nat → (Nat → Nat → Nat) → Nat → Nat
  | 0, _ => fun _ => 1
  | 1, _ => fun _ => 1
  | l + 2, M => fun i => if i < l + 1 then sol (l + 1) (el M (l + 1)) i * gN M (l + 1) else sN (l + 1) fun k => sol (l + 1) (el M (l + 1)) k * M k (l + 1)
theorem sol_lt {l i : Nat} {M : Nat → Nat → Nat} (h : 1 ≤ l) (hi : i < l) : sol (l + 1) M i = sol l (el M l) i * gN M l := by
  obtain ⟨k, rfl⟩ : ∃ k, l = k + 1 := ⟨l - 1, by omega⟩
  rw [sol]
  exact if_pos hi
theorem sol_last {l : Nat} {M : Nat → Nat → Nat} (h : 1 ≤ l) : sol (l + 1) M l = sN l fun k => sol l (el M l) k * M k l := by
  obtain ⟨k, rfl⟩ : ∃ k, l = k + 1 := ⟨l - 1, by omega⟩
  rw [sol]
  exact if_neg (by omega)
theorem sol_pos : ∀ {k : Nat} {M : Nat → Nat → Nat}, StrN k M → ∀ i, i < k → 0 < sol k M i
  | 0, _, _, i, h => by omega
  | 1, _, _, i, h => by
    rw [sol]
    exact Nat.one_pos
  | l + 2, M, h, i, hi => by
    have h2 := el_str h (by omega)
    have ih := sol_pos h2
    by_cases c : i < l + 1
    · rw [sol_lt (by omega) c]
      exact Nat.mul_pos (ih i c) (g_pos h (by omega))
    · have e : i = l + 1 := by omega
      subst e
      rw [sol_last (by omega)]
      obtain ⟨x, hx, h3⟩ := in_pos h (by omega)
      exact sN_pos hx (Nat.mul_pos (ih x hx) h3)
/-- what comes to j is what goes from it -/
theorem sol_bal : ∀ {k : Nat} (M : Nat → Nat → Nat), 1 ≤ k → ∀ j, j < k → sN k (fun i => sol k M i * M i j) = sol k M j * sN k (M j)
  | 0, _, h, _, _ => by omega
  | 1, M, _, j, hj => by
    have : j = 0 := by omega
    subst this
    simp [sN, sol]
  | l + 2, M, _, j, hj => by
    have ih := sol_bal (k := l + 1) (el M (l + 1)) (by omega)
    have e0 : sN (l + 1) (fun i => sol (l + 2) M i * M i j) = sN (l + 1) (fun i => sol (l + 1) (el M (l + 1)) i * M i j) * gN M (l + 1) := by
      rw [← sN_mul]
      refine sN_congr fun i hi => ?_
      rw [sol_lt (l := l + 1) (by omega) hi, Nat.mul_right_comm]
    rw [sN, e0, sol_last (l := l + 1) (by omega)]
    by_cases c : j < l + 1
    · have h1 := ih j c
      rw [sol_lt (l := l + 1) (by omega) c, el_sum] at *
      have e1 : sN (l + 1) (fun i => sol (l + 1) (el M (l + 1)) i * el M (l + 1) i j) = sN (l + 1) (fun i => sol (l + 1) (el M (l + 1)) i * M i j) * gN M (l + 1) + sN (l + 1) (fun i => sol (l + 1) (el M (l + 1)) i * M i (l + 1)) * M (l + 1) j := by
        rw [← sN_mul, ← sN_mul, ← sN_add]
        refine sN_congr fun i hi => ?_
        show _ * (M i j * gN M (l + 1) + M i (l + 1) * M (l + 1) j) = _
        rw [Nat.mul_add, Nat.mul_assoc, Nat.mul_assoc]
      rw [← e1, h1]
      rw [Nat.mul_assoc, Nat.mul_comm (gN M (l + 1))]
    · have e : j = l + 1 := by omega
      subst e
      rw [show sN (l + 2) (M (l + 1)) = gN M (l + 1) + M (l + 1) (l + 1) from rfl, Nat.mul_add, sol_last (l := l + 1) (by omega)]
/-- after i places are left out of n -/
def stg (n : Nat) (M : Nat → Nat → Nat) : Nat → Nat → Nat → Nat
  | 0 => M
  | i + 1 => el (stg n M i) (n - 1 - i)
theorem stg_str {n : Nat} {M : Nat → Nat → Nat} (h : StrN n M) : ∀ i, i < n → StrN (n - i) (stg n M i)
  | 0, _ => h
  | i + 1, hi => by
    have ih := stg_str h i (by omega)
    have e : n - i = (n - 1 - i) + 1 := by omega
    rw [e] at ih
    have h2 := el_str ih (by omega)
    have e2 : n - (i + 1) = n - 1 - i := by omega
    rw [e2]
    exact h2
def bitN (b : Nat) : Nat → Nat
  | 0 => b
  | i + 1 => 2 * bitN b i + 4
theorem stg_lt {n b : Nat} {M : Nat → Nat → Nat} (hn : n ≤ 6) (h : ∀ i j, i < n → j < n → M i j < 2 ^ b) : ∀ k, k < n → ∀ i j, i < n - k → j < n - k → stg n M k i j < 2 ^ bitN b k
  | 0, _ => h
  | k + 1, hk => by
    have ih := stg_lt hn h k (by omega)
    intro i j hi hj
    exact el_lt (l := n - 1 - k) (by omega) (fun i j hi hj => ih i j (by omega) (by omega)) i j (by omega) (by omega)
/-- what each place weighs, times one number: the same at each stage -/
def pN (n : Nat) (M : Nat → Nat → Nat) (j : Nat) : Nat := sol n M j * sN n (M j)
theorem pN_el {l : Nat} {M : Nat → Nat → Nat} (h : 1 ≤ l) {j : Nat} (hj : j < l) : pN l (el M l) j = pN (l + 1) M j := by
  unfold pN
  rw [el_sum, sol_lt h hj, Nat.mul_assoc, Nat.mul_comm (gN M l)]
theorem pN_stg {n : Nat} {M : Nat → Nat → Nat} : ∀ i, i < n → ∀ j, j < n - i → pN (n - i) (stg n M i) j = pN n M j
  | 0, _, _, _ => rfl
  | i + 1, hi, j, hj => by
    have ih := pN_stg (n := n) (M := M) i (by omega) j (by omega)
    have e : n - i = (n - 1 - i) + 1 := by omega
    have e2 : n - (i + 1) = n - 1 - i := by omega
    rw [e] at ih
    rw [e2]
    show pN (n - 1 - i) (el (stg n M i) (n - 1 - i)) j = _
    rw [pN_el (by omega) (by omega), ih]
/-! ### as fractions -/
def fQ (k : Nat) : Rat := ((k : Nat) : Rat)
theorem fQ_mul (a b : Nat) : fQ (a * b) = fQ a * fQ b := by
  unfold fQ
  exact Rat.natCast_mul a b
theorem fQ_add (a b : Nat) : fQ (a + b) = fQ a + fQ b := by
  unfold fQ
  exact Rat.natCast_add a b
theorem fQ_pos {a : Nat} (h : 0 < a) : 0 < fQ a := by
  unfold fQ
  exact_mod_cast h
theorem fQ_ne {a : Nat} (h : 0 < a) : fQ a ≠ 0 := by
  have := fQ_pos h
  grind
/-- the sum of a drawn row -/
theorem sumQ_app : ∀ (l m : List Rat), Bq.sumQ (l ++ m) = Bq.sumQ l + Bq.sumQ m
  | [], m => by
    rw [List.nil_append, Bq.sumQ]
    grind
  | a :: l, m => by
    rw [List.cons_append, Bq.sumQ, sumQ_app l m, Bq.sumQ]
    grind
theorem sumQ_div (f : Nat → Nat) (c : Rat) : ∀ n, Bq.sumQ ((List.range n).map fun j => fQ (f j) / c) = fQ (sN n f) / c
  | 0 => by
    simp [Bq.sumQ, sN, fQ]
    grind
  | n + 1 => by
    rw [List.range_succ, List.map_append, sumQ_app, sumQ_div f c n, sN, fQ_add]
    simp only [List.map_cons, List.map_nil, Bq.sumQ]
    grind
/-- the chance from i to j of a stage of k places -/
def chQ (k : Nat) (M : Nat → Nat → Nat) (i j : Nat) : Rat := fQ (M i j) / fQ (sN k (M i))
/-- what is put in the last column when the last place, l, is left out -/
def bkQ (l : Nat) (M : Nat → Nat → Nat) (i : Nat) : Rat := chQ (l + 1) M i l / (fQ (gN M l) / fQ (sN (l + 1) (M l)))
theorem goes_eq (l : Nat) (M : Nat → Nat → Nat) : Bq.sumQ ((List.range l).map fun j => chQ (l + 1) M l j) = fQ (gN M l) / fQ (sN (l + 1) (M l)) := sumQ_div (M l) _ l
theorem step_eq {l i j : Nat} {M : Nat → Nat → Nat} (h : StrN (l + 1) M) (hl : 1 ≤ l) (hi : i < l) : chQ (l + 1) M i j + bkQ l M i * chQ (l + 1) M l j = chQ l (el M l) i j := by
  have g0 := fQ_ne (g_pos h hl)
  have r1 := fQ_ne (out_pos h (by omega) (show i < l + 1 by omega))
  have r2 := fQ_ne (out_pos h (by omega) (show l < l + 1 by omega))
  unfold bkQ chQ
  rw [el_sum]
  unfold el
  rw [fQ_add, fQ_mul, fQ_mul, fQ_mul]
  generalize fQ (gN M l) = g at *
  generalize fQ (sN (l + 1) (M i)) = r at *
  generalize fQ (sN (l + 1) (M l)) = t at *
  generalize fQ (M i j) = a
  generalize fQ (M i l) = b
  generalize fQ (M l j) = c
  grind
theorem found_eq {l : Nat} {M : Nat → Nat → Nat} (h : StrN (l + 1) M) (hl : 1 ≤ l) (c : Rat) : Bq.sumQ ((List.range l).map fun i => fQ (pN (l + 1) M i) / c * bkQ l M i) = fQ (pN (l + 1) M l) / c := by
  have g0 := fQ_ne (g_pos h hl)
  have r2 := fQ_ne (out_pos h (by omega) (show l < l + 1 by omega))
  have e : ∀ i, i < l → fQ (pN (l + 1) M i) / c * bkQ l M i = fQ (sol l (el M l) i * M i l * sN (l + 1) (M l)) / c := fun i hi => by
    have r1 := fQ_ne (out_pos h (by omega) (show i < l + 1 by omega))
    unfold pN bkQ chQ
    rw [sol_lt hl hi]
    simp only [fQ_mul]
    generalize fQ (gN M l) = g at *
    generalize fQ (sN (l + 1) (M i)) = r at *
    generalize fQ (sN (l + 1) (M l)) = t at *
    grind
  have e2 : ((List.range l).map fun i => fQ (pN (l + 1) M i) / c * bkQ l M i) = (List.range l).map fun i => fQ (sol l (el M l) i * M i l * sN (l + 1) (M l)) / c := List.map_congr_left fun i hi => e i (List.mem_range.mp hi)
  rw [e2, sumQ_div (fun i => sol l (el M l) i * M i l * sN (l + 1) (M l)) c l, sN_mul, pN, sol_last hl]
end Bw
set_option exponentiation.threshold 4000
namespace Bw
/-! ### rows drawn, as a square -/
def mf (M : List (List Nat)) (i j : Nat) : Nat := (M.getD i []).getD j 0
theorem row_range {row : List Nat} {n : Nat} (h : row.length = n) : row = (List.range n).map fun j => row.getD j 0 := by
  refine List.ext_getElem (by simp [h]) fun i h1 h2 => ?_
  rw [List.getElem_map, List.getElem_range, List.getD_eq_getElem?_getD, List.getElem?_eq_getElem h1]
  rfl
theorem sumQ_fQ (f : Nat → Nat) : ∀ n, Bq.sumQ ((List.range n).map fun j => fQ (f j)) = fQ (sN n f) := fun n => by
  have h := sumQ_div f 1 n
  have e : ((List.range n).map fun j => fQ (f j) / 1) = (List.range n).map fun j => fQ (f j) := List.map_congr_left fun i _ => by grind
  rw [e] at h
  rw [h]
  grind
theorem overQ_eq {row : List Nat} {n : Nat} (h : row.length = n) : overQ row = (List.range n).map fun j => fQ (row.getD j 0) / fQ (sN n fun j => row.getD j 0) := by
  have e : rowQ row = (List.range n).map fun j => fQ (row.getD j 0) := by
    have e1 := congrArg (List.map fun k => ((k : Nat) : Rat)) (row_range h)
    rw [List.map_map] at e1
    exact e1
  unfold overQ
  rw [e, List.map_map, sumQ_fQ]
  rfl
/-- a walk drawn from a square of numbers -/
structure Wk (n : Nat) (M : List (List Nat)) : Prop where
  n1 : 1 ≤ n
  n6 : n ≤ 6
  l : M.length = n
  r : ∀ row ∈ M, row.length = n
  k : ∀ i j, i < n → j < n → mf M i j < 2 ^ 20
  st : StrN n (mf M)
  p : ∀ i, i < n → 0 < sN n (mf M i)
theorem mf_row {M : List (List Nat)} {i : Nat} {row : List Nat} (h : M[i]? = some row) : mf M i = fun j => row.getD j 0 := by
  funext j
  have e : M.getD i [] = row := by
    rw [List.getD_eq_getElem?_getD, h]
    rfl
  show (M.getD i []).getD j 0 = _
  rw [e]
theorem Wk.at {n : Nat} {M : List (List Nat)} (h : Wk n M) {i : Nat} (hi : i < n) : ∃ row, M[i]? = some row ∧ row.length = n := by
  have hl := h.l
  have e : M[i]? = some (M[i]'(by omega)) := List.getElem?_eq_getElem (by omega)
  exact ⟨_, e, h.r _ (List.mem_of_getElem? e)⟩
theorem Wk.row {n : Nat} {M : List (List Nat)} (h : Wk n M) {i : Nat} (hi : i < n) : (walkM M)[i]? = some ((List.range n).map fun j => chQ n (mf M) i j) := by
  obtain ⟨row, e, hl⟩ := h.at hi
  unfold walkM
  rw [List.getElem?_map, e]
  show some (overQ row) = _
  rw [overQ_eq hl]
  unfold chQ
  rw [mf_row e]
theorem Wk.len {n : Nat} {M : List (List Nat)} (h : Wk n M) : (walkM M).length = n := by
  unfold walkM
  rw [List.length_map, h.l]
/-! ### sizes -/
theorem fQ_over {a b : Nat} : fQ a / fQ b = Rat.divInt a b := by
  unfold fQ
  rw [Rat.divInt_eq_div]
  rfl
theorem fQ_sz {a b n : Nat} (ha : a < 2 ^ n) (hb : b < 2 ^ n) (h : 0 < b) : Bq.Sz n (fQ a / fQ b) := by
  rw [fQ_over]
  exact Bq.sz_div (by omega) (by simpa using ha) (by simpa using hb)
theorem pow_le {m n : Nat} (h : m ≤ n) : 2 ^ m ≤ 2 ^ n := Nat.pow_le_pow_right (by decide) h
theorem sN_bits {f : Nat → Nat} {n b : Nat} (hn : n ≤ 6) (h : ∀ i, i < n → f i < 2 ^ b) : sN n f < 2 ^ (b + 3) := by
  have p0 : 0 < 2 ^ b := Nat.pow_pos (by omega)
  have h1 := sN_lt h p0
  have h2 : n * 2 ^ b ≤ 6 * 2 ^ b := Nat.mul_le_mul_right _ hn
  have e : 2 ^ (b + 3) = 2 ^ b * 8 := by rw [Nat.pow_add]
  rw [e]
  omega
theorem bit_le {n k : Nat} (hn : n ≤ 6) (hk : k + 2 ≤ n) : bitN 20 k ≤ 380 := by
  match k, hk with
  | 0, _ => decide
  | 1, _ => decide
  | 2, _ => decide
  | 3, _ => decide
  | 4, _ => decide
  | k + 5, h => omega
theorem mul_bits {a b m n : Nat} (ha : a < 2 ^ m) (hb : b < 2 ^ n) : a * b < 2 ^ (m + n) := by
  rw [Nat.pow_add]
  exact Nat.mul_lt_mul'' ha hb
/-- the bits of the numbers by which what comes is what goes -/
def solB : Nat → Nat → Nat
  | 0, _ => 1
  | 1, _ => 1
  | l + 2, b => solB (l + 1) (2 * b + 4) + b + 3
theorem sol_lt2 : ∀ {k : Nat} {M : Nat → Nat → Nat} {b : Nat}, k ≤ 6 → (∀ i j, i < k → j < k → M i j < 2 ^ b) → ∀ i, sol k M i < 2 ^ solB k b
  | 0, _, _, _, _, _ => by simp [sol, solB]
  | 1, _, _, _, _, _ => by simp [sol, solB]
  | l + 2, M, b, hk, h, i => by
    have ih := sol_lt2 (k := l + 1) (M := el M (l + 1)) (b := 2 * b + 4) (by omega) (el_lt (by omega) fun i j hi hj => h i j (by omega) (by omega))
    have hg : gN M (l + 1) < 2 ^ (b + 3) := sN_bits (by omega) fun j hj => h _ _ (by omega) (by omega)
    rw [sol, solB]
    show (if i < l + 1 then _ else _) < _
    split
    · rw [Nat.add_assoc]
      exact mul_bits (ih i) hg
    · rw [show solB (l + 1) (2 * b + 4) + b + 3 = (solB (l + 1) (2 * b + 4) + b) + 3 by omega]
      exact sN_bits (by omega) fun k hk => mul_bits (ih k) (h _ _ (by omega) (by omega))
theorem solB_le {n : Nat} (hn : n ≤ 6) : solB n 20 ≤ 740 := by
  match n, hn with
  | 0, _ => decide
  | 1, _ => decide
  | 2, _ => decide
  | 3, _ => decide
  | 4, _ => decide
  | 5, _ => decide
  | 6, _ => decide
  | n + 7, h => omega
theorem Wk.sol_lt {n : Nat} {M : List (List Nat)} (h : Wk n M) (i : Nat) : sol n (mf M) i < 2 ^ 740 := Nat.lt_of_lt_of_le (sol_lt2 h.n6 h.k i) (pow_le (solB_le h.n6))
theorem Wk.rs_lt {n : Nat} {M : List (List Nat)} (h : Wk n M) {i : Nat} (hi : i < n) : sN n (mf M i) < 2 ^ 23 := sN_bits h.n6 fun j hj => h.k i j hi hj
theorem Wk.pN_lt {n : Nat} {M : List (List Nat)} (h : Wk n M) {i : Nat} (hi : i < n) : pN n (mf M) i < 2 ^ 763 := by
  rw [show 763 = 740 + 23 from rfl]
  exact mul_bits (h.sol_lt i) (h.rs_lt hi)
theorem Wk.pN_pos {n : Nat} {M : List (List Nat)} (h : Wk n M) {i : Nat} (hi : i < n) : 0 < pN n (mf M) i := Nat.mul_pos (sol_pos h.st i hi) (h.p i hi)
def allN (n : Nat) (M : List (List Nat)) : Nat := sN n (pN n (mf M))
theorem Wk.all_lt {n : Nat} {M : List (List Nat)} (h : Wk n M) : allN n M < 2 ^ 766 := by
  rw [show 766 = 763 + 3 from rfl]
  exact sN_bits h.n6 fun i hi => h.pN_lt hi
theorem Wk.all_pos {n : Nat} {M : List (List Nat)} (h : Wk n M) : 0 < allN n M := sN_pos (i := 0) (by have := h.n1; omega) (h.pN_pos (by have := h.n1; omega))
/-- the shares -/
def shQ (n : Nat) (M : List (List Nat)) (i : Nat) : Rat := fQ (pN n (mf M) i) / fQ (allN n M)
theorem Wk.ch_sz {n : Nat} {M : List (List Nat)} (h : Wk n M) {t : Nat} (ht : t + 2 ≤ n) {i j : Nat} (hi : i < n - t) (hj : j < n - t) : Bq.Sz 383 (chQ (n - t) (stg n (mf M) t) i j) := by
  have hb := bit_le h.n6 ht
  have n6 := h.n6
  have lt := stg_lt h.n6 h.k t (by omega)
  refine fQ_sz (Nat.lt_of_lt_of_le (lt i j hi hj) (pow_le (by omega))) (Nat.lt_of_lt_of_le (sN_bits (b := bitN 20 t) (by omega) fun j hj => lt i j hi hj) (pow_le (by omega))) (out_pos (stg_str h.st t (by omega)) (by omega) hi)
theorem bkQ_eq {l : Nat} {M : Nat → Nat → Nat} (h : StrN (l + 1) M) (hl : 1 ≤ l) {i : Nat} (hi : i < l) : bkQ l M i = fQ (M i l * sN (l + 1) (M l)) / fQ (sN (l + 1) (M i) * gN M l) := by
  have g0 := fQ_ne (g_pos h hl)
  have r1 := fQ_ne (out_pos h (by omega) (show i < l + 1 by omega))
  have r2 := fQ_ne (out_pos h (by omega) (show l < l + 1 by omega))
  unfold bkQ chQ
  rw [fQ_mul, fQ_mul]
  generalize fQ (gN M l) = g at *
  generalize fQ (sN (l + 1) (M i)) = r at *
  generalize fQ (sN (l + 1) (M l)) = t at *
  grind
theorem Wk.bk_sz {n : Nat} {M : List (List Nat)} (h : Wk n M) {l : Nat} (hl : 1 ≤ l) (hn : l < n) {i : Nat} (hi : i < l) : Bq.Sz 770 (bkQ l (stg n (mf M) (n - 1 - l)) i) := by
  have hb := bit_le (k := n - 1 - l) h.n6 (by omega)
  have n6 := h.n6
  have lt := stg_lt h.n6 h.k (n - 1 - l) (by omega)
  have st := stg_str h.st (n - 1 - l) (by omega)
  have e : n - (n - 1 - l) = l + 1 := by omega
  rw [e] at st lt
  rw [bkQ_eq st hl hi]
  generalize bitN 20 (n - 1 - l) = b at *
  have g0 := g_pos st hl
  have r1 := out_pos st (by omega) (show i < l + 1 by omega)
  have s1 := sN_bits (n := l + 1) (f := stg n (mf M) (n - 1 - l) l) (b := b) (by omega) fun j hj => lt _ _ (by omega) hj
  have s2 := sN_bits (n := l + 1) (f := stg n (mf M) (n - 1 - l) i) (b := b) (by omega) fun j hj => lt _ _ (by omega) hj
  have s3 := sN_bits (n := l) (f := stg n (mf M) (n - 1 - l) l) (b := b) (by omega) fun j hj => lt _ _ (by omega) (by omega)
  refine fQ_sz (Nat.lt_of_lt_of_le (mul_bits (lt i l (by omega) (by omega)) s1) (pow_le (by omega))) (Nat.lt_of_lt_of_le (mul_bits s2 s3) (pow_le (by omega))) (Nat.mul_pos r1 g0)
theorem Wk.found_sz {n : Nat} {M : List (List Nat)} (h : Wk n M) {i : Nat} (hi : i < n) : Bq.Sz 770 (fQ (pN n (mf M) i) / fQ (pN n (mf M) 0)) :=
  fQ_sz (Nat.lt_of_lt_of_le (h.pN_lt hi) (pow_le (by omega))) (Nat.lt_of_lt_of_le (h.pN_lt (by have := h.n1; omega)) (pow_le (by omega))) (h.pN_pos (by have := h.n1; omega))
theorem Wk.sh_sz {n : Nat} {M : List (List Nat)} (h : Wk n M) {i : Nat} (hi : i < n) : Bq.Sz 770 (shQ n M i) :=
  fQ_sz (Nat.lt_of_lt_of_le (h.pN_lt hi) (pow_le (by omega))) (Nat.lt_of_lt_of_le h.all_lt (pow_le (by omega))) h.all_pos
theorem Wk.sh_pos {n : Nat} {M : List (List Nat)} (h : Wk n M) {i : Nat} (hi : i < n) : 0 < shQ n M i := by
  unfold shQ
  rw [Rat.div_def]
  exact Rat.mul_pos (fQ_pos (h.pN_pos hi)) (Rat.inv_pos.mpr (fQ_pos h.all_pos))
/-! ### flows, the walk backwards -/
def flN (n : Nat) (M : List (List Nat)) (i j : Nat) : Nat := sol n (mf M) i * mf M i j
theorem Wk.fl_eq {n : Nat} {M : List (List Nat)} (h : Wk n M) {i : Nat} (hi : i < n) (j : Nat) : shQ n M i * chQ n (mf M) i j = fQ (flN n M i j) / fQ (allN n M) := by
  have r := fQ_ne (h.p i hi)
  unfold shQ chQ pN flN
  rw [fQ_mul, fQ_mul]
  generalize fQ (sN n (mf M i)) = a at *
  grind
theorem Wk.fl_lt {n : Nat} {M : List (List Nat)} (h : Wk n M) {i j : Nat} (hi : i < n) (hj : j < n) : flN n M i j < 2 ^ 760 := by
  rw [show 760 = 740 + 20 from rfl]
  exact mul_bits (h.sol_lt i) (h.k i j hi hj)
theorem Wk.fl_sz {n : Nat} {M : List (List Nat)} (h : Wk n M) {i j : Nat} (hi : i < n) (hj : j < n) : Bq.Sz 770 (fQ (flN n M i j) / fQ (allN n M)) :=
  fQ_sz (Nat.lt_of_lt_of_le (h.fl_lt hi hj) (pow_le (by omega))) (Nat.lt_of_lt_of_le h.all_lt (pow_le (by omega))) h.all_pos
/-- the square of the walk backwards -/
def bkM (n : Nat) (M : List (List Nat)) : List (List Nat) := (List.range n).map fun i => (List.range n).map fun j => flN n M j i
theorem bkM_at {n : Nat} {M : List (List Nat)} {i j : Nat} (hi : i < n) (hj : j < n) : mf (bkM n M) i j = flN n M j i := by
  have e : (bkM n M)[i]? = some ((List.range n).map fun j => flN n M j i) := by
    unfold bkM
    rw [List.getElem?_map, List.getElem?_range hi]
    rfl
  rw [mf_row e]
  show ((List.range n).map fun j => flN n M j i).getD j 0 = _
  rw [List.getD_eq_getElem?_getD, List.getElem?_map, List.getElem?_range hj]
  rfl
theorem Wk.bk_sum {n : Nat} {M : List (List Nat)} (h : Wk n M) {i : Nat} (hi : i < n) : sN n (mf (bkM n M) i) = pN n (mf M) i := by
  have e : sN n (mf (bkM n M) i) = sN n fun j => flN n M j i := sN_congr fun j hj => bkM_at hi hj
  rw [e]
  exact sol_bal (mf M) h.n1 i hi
theorem Wk.bk_ch {n : Nat} {M : List (List Nat)} (h : Wk n M) {i j : Nat} (hi : i < n) (hj : j < n) : chQ n (mf (bkM n M)) i j = fQ (flN n M j i) / fQ (pN n (mf M) i) := by
  unfold chQ
  rw [bkM_at hi hj, h.bk_sum hi]
theorem Wk.bk_row {n : Nat} {M : List (List Nat)} (h : Wk n M) {i : Nat} (hi : i < n) : (walkM (bkM n M))[i]? = some ((List.range n).map fun j => fQ (flN n M j i) / fQ (pN n (mf M) i)) := by
  have e : (bkM n M)[i]? = some ((List.range n).map fun j => flN n M j i) := by
    unfold bkM
    rw [List.getElem?_map, List.getElem?_range hi]
    rfl
  unfold walkM
  rw [List.getElem?_map, e]
  show some (overQ _) = _
  rw [overQ_eq (n := n) (by simp), ← h.bk_sum hi, mf_row e]
  refine congrArg some (List.map_congr_left fun j hj => ?_)
  rw [List.getD_eq_getElem?_getD, List.getElem?_map, List.getElem?_range (List.mem_range.mp hj)]
  rfl
theorem Wk.bk_over {n : Nat} {M : List (List Nat)} (h : Wk n M) {i : Nat} (hi : i < n) :
    (((List.range n).map fun j => fQ (flN n M j i) / fQ (allN n M)).map fun q => q / Bq.sumQ ((List.range n).map fun j => fQ (flN n M j i) / fQ (allN n M))) = (List.range n).map fun j => fQ (flN n M j i) / fQ (pN n (mf M) i) := by
  have a0 := fQ_ne h.all_pos
  have e : sN n (fun j => flN n M j i) = pN n (mf M) i := sol_bal (mf M) h.n1 i hi
  rw [sumQ_div, e, List.map_map]
  refine List.map_congr_left fun j hj => ?_
  have p0 := fQ_ne (h.pN_pos hi)
  show fQ (flN n M j i) / fQ (allN n M) / (fQ (pN n (mf M) i) / fQ (allN n M)) = _
  generalize fQ (allN n M) = a at *
  generalize fQ (pN n (mf M) i) = b at *
  grind
theorem Wk.sum_pos {n : Nat} {M : List (List Nat)} (h : Wk n M) {i : Nat} (hi : i < n) : 0 < Bq.sumQ ((List.range n).map fun j => fQ (flN n M j i) / fQ (allN n M)) := by
  have e : sN n (fun j => flN n M j i) = pN n (mf M) i := sol_bal (mf M) h.n1 i hi
  rw [sumQ_div, e]
  exact h.sh_pos hi
theorem Wk.bk_sz2 {n : Nat} {M : List (List Nat)} (h : Wk n M) {i j : Nat} (hi : i < n) (hj : j < n) : Bq.Sz 770 (fQ (flN n M j i) / fQ (pN n (mf M) i)) :=
  fQ_sz (Nat.lt_of_lt_of_le (h.fl_lt hj hi) (pow_le (by omega))) (Nat.lt_of_lt_of_le (h.pN_lt hi) (pow_le (by omega))) (h.pN_pos hi)
/-! ### products round a ring -/
def fw (R : Nat → Nat → Rat) : List (Nat × Nat) → Rat
  | [] => 1
  | p :: t => R p.1 p.2 * fw R t
theorem fw_app (R : Nat → Nat → Rat) : ∀ l m, fw R (l ++ m) = fw R l * fw R m
  | [], m => by
    rw [List.nil_append, fw]
    grind
  | p :: l, m => by
    rw [List.cons_append, fw, fw_app R l m, fw]
    grind
theorem fw_one (R : Nat → Nat → Rat) (p : Nat × Nat) : fw R [p] = R p.1 p.2 := by
  rw [fw, fw]
  grind
theorem fw_congr {R S : Nat → Nat → Rat} : ∀ {l : List (Nat × Nat)}, (∀ p ∈ l, R p.1 p.2 = S p.1 p.2) → fw R l = fw S l
  | [], _ => rfl
  | p :: l, h => by
    rw [fw, fw, h p List.mem_cons_self, fw_congr fun q hq => h q (List.mem_cons_of_mem _ hq)]
def prf (f : Nat → Rat) : List Nat → Rat
  | [] => 1
  | a :: t => f a * prf f t
theorem prf_app (f : Nat → Rat) : ∀ l m, prf f (l ++ m) = prf f l * prf f m
  | [], m => by
    rw [List.nil_append, prf]
    grind
  | a :: l, m => by
    rw [List.cons_append, prf, prf_app f l m, prf]
    grind
theorem prf_ne {f : Nat → Rat} : ∀ {l : List Nat}, (∀ a ∈ l, f a ≠ 0) → prf f l ≠ 0
  | [], _ => by
    rw [prf]
    decide
  | a :: l, h => by
    have h1 := h a List.mem_cons_self
    have h2 := prf_ne (f := f) (l := l) fun b hb => h b (List.mem_cons_of_mem _ hb)
    rw [prf]
    exact fun z => (Rat.mul_eq_zero.mp z).elim h1 h2
theorem fw_ratio {f : Nat → Rat} {g : Nat → Nat → Rat} : ∀ {l : List (Nat × Nat)}, (∀ p ∈ l, f p.1 ≠ 0) → fw (fun x y => f y / f x * g x y) l = prf f (l.map (·.2)) / prf f (l.map (·.1)) * fw g l
  | [], _ => by
    simp only [fw, List.map_nil, prf]
    grind
  | p :: l, h => by
    have h1 := h p List.mem_cons_self
    have h2 := prf_ne (f := f) (l := l.map (·.1)) fun b hb => by
      obtain ⟨q, hq, rfl⟩ := List.mem_map.mp hb
      exact h q (List.mem_cons_of_mem _ hq)
    rw [fw, fw_ratio fun q hq => h q (List.mem_cons_of_mem _ hq), fw]
    simp only [List.map_cons, prf]
    generalize prf f (l.map (·.1)) = a at *
    generalize prf f (l.map (·.2)) = b at *
    grind
theorem fw_ratio2 {f : Nat → Rat} {g : Nat → Nat → Rat} : ∀ {l : List (Nat × Nat)}, (∀ p ∈ l, f p.2 ≠ 0) → fw (fun x y => f x / f y * g x y) l = prf f (l.map (·.1)) / prf f (l.map (·.2)) * fw g l
  | [], _ => by
    simp only [fw, List.map_nil, prf]
    grind
  | p :: l, h => by
    have h1 := h p List.mem_cons_self
    have h2 := prf_ne (f := f) (l := l.map (·.2)) fun b hb => by
      obtain ⟨q, hq, rfl⟩ := List.mem_map.mp hb
      exact h q (List.mem_cons_of_mem _ hq)
    rw [fw, fw_ratio2 fun q hq => h q (List.mem_cons_of_mem _ hq), fw]
    simp only [List.map_cons, prf]
    generalize prf f (l.map (·.1)) = a at *
    generalize prf f (l.map (·.2)) = b at *
    grind
/-- the steps of a ring -/
def rot (l : List Nat) : List Nat := l.drop 1 ++ l.take 1
def stp (l : List Nat) : List (Nat × Nat) := l.zip (rot l)
theorem rot_len (l : List Nat) : (rot l).length = l.length := by
  unfold rot
  rw [List.length_append, List.length_drop, List.length_take]
  omega
theorem stp_fst (l : List Nat) : (stp l).map (·.1) = l := by
  unfold stp
  exact List.map_fst_zip (Nat.le_of_eq (rot_len l).symm)
theorem stp_snd (l : List Nat) : (stp l).map (·.2) = rot l := by
  unfold stp
  exact List.map_snd_zip (Nat.le_of_eq (rot_len l))
theorem prf_rot (f : Nat → Rat) (l : List Nat) : prf f (rot l) = prf f l := by
  have h := prf_app f (l.take 1) (l.drop 1)
  rw [List.take_append_drop] at h
  unfold rot
  rw [prf_app, h]
  grind
theorem stp_mem {l : List Nat} {p : Nat × Nat} (h : p ∈ stp l) : p.1 ∈ l ∧ p.2 ∈ l := by
  constructor
  · have : p.1 ∈ (stp l).map (·.1) := List.mem_map.mpr ⟨p, h, rfl⟩
    rw [stp_fst] at this
    exact this
  · have : p.2 ∈ (stp l).map (·.2) := List.mem_map.mpr ⟨p, h, rfl⟩
    rw [stp_snd] at this
    unfold rot at this
    rcases List.mem_append.mp this with z | z
    · exact List.mem_of_mem_drop z
    · exact List.mem_of_mem_take z
/-- backwards both products are exchanged -/
theorem Wk.turned {n : Nat} {M : List (List Nat)} (h : Wk n M) {l : List Nat} (hl : ∀ a ∈ l, a < n) :
    fw (chQ n (mf (bkM n M))) (stp l) = fw (fun x y => chQ n (mf M) y x) (stp l) ∧ fw (fun x y => chQ n (mf (bkM n M)) y x) (stp l) = fw (chQ n (mf M)) (stp l) := by
  let f : Nat → Rat := fun i => fQ (pN n (mf M) i)
  have f0 : ∀ i, i < n → f i ≠ 0 := fun i hi => fQ_ne (h.pN_pos hi)
  have key : ∀ i j, i < n → j < n → chQ n (mf (bkM n M)) i j = f j / f i * chQ n (mf M) j i := fun i j hi hj => by
    have r := fQ_ne (h.p j hj)
    rw [h.bk_ch hi hj]
    show _ = fQ (pN n (mf M) j) / fQ (pN n (mf M) i) * chQ n (mf M) j i
    unfold chQ
    have e : fQ (pN n (mf M) j) = fQ (sol n (mf M) j) * fQ (sN n (mf M j)) := fQ_mul _ _
    have e2 : fQ (flN n M j i) = fQ (sol n (mf M) j) * fQ (mf M j i) := fQ_mul _ _
    rw [e, e2]
    generalize fQ (sN n (mf M j)) = a at *
    grind
  have p0 : prf f l ≠ 0 := prf_ne fun a ha => f0 a (hl a ha)
  constructor
  · have e1 : fw (chQ n (mf (bkM n M))) (stp l) = fw (fun x y => f y / f x * chQ n (mf M) y x) (stp l) := fw_congr fun p hp => key _ _ (hl _ (stp_mem hp).1) (hl _ (stp_mem hp).2)
    rw [e1, fw_ratio (f := f) (g := fun x y => chQ n (mf M) y x) fun p hp => f0 _ (hl _ (stp_mem hp).1), stp_fst, stp_snd, prf_rot]
    generalize prf f l = a at *
    grind
  · have e1 : fw (fun x y => chQ n (mf (bkM n M)) y x) (stp l) = fw (fun x y => f x / f y * chQ n (mf M) x y) (stp l) := fw_congr fun p hp => key _ _ (hl _ (stp_mem hp).2) (hl _ (stp_mem hp).1)
    rw [e1, fw_ratio2 (f := f) (g := fun x y => chQ n (mf M) x y) fun p hp => f0 _ (hl _ (stp_mem hp).2), stp_fst, stp_snd, prf_rot]
    show prf f l / prf f l * fw (chQ n (mf M)) (stp l) = _
    generalize prf f l = a at *
    grind
end Bw
/-! Part 14. enumerate of a tuple, zip of two tuples in a comprehension, x *= y. -/
namespace Bw
open PySem PySem.Spec PyProof.Rows L2
theorem meets_newT {v : Value} {ob : Obj} {G : Heap → Prop} (B : Begins v ob G) :
    Meets (Builtin.«enumerate.__new__» ⟨[.type "enumerate", v], []⟩) (fun _ R s =>
      G s.heap ∧ R (.ok (.ret (.ref (s.heap.push ob).objs.size))) { s with
        heap := (s.heap.push ob).push { cls := .type "enumerate", data := .fields #[.none, .bool false, .ref s.heap.objs.size, rawInt 0, .none, .none] } }) :=
  .of_wp fun pg wo Ar R s z => by
    obtain ⟨hp, gs, dr, tk, os⟩ := s
    obtain ⟨z1, z⟩ := z
    have sub0 := sub_enumerate
    have begun : ∀ {A' : Around} {E Q : Value → Shared → Prop}, Q (.ref hp.objs.size) ⟨hp.push ob, gs, dr, tk, os⟩ →
        wpAny (model pg wo) A' (pyIter v) Q E ⟨hp, gs, dr, tk, os⟩ := fun y => B.iter pg wo _ _ ⟨hp, gs, dr, tk, os⟩ _ z1 y
    wp_walk using begun
    refine wpAny_stack_any fun sk => wpAny_pure ?_
    split
    · rename_i c _ _ _ _ _
      cases (c == Value.type "enumerate")
      · wp_walk using begun
        exact ⟨_, rfl, z⟩
      · wp_walk using begun
        exact ⟨_, rfl, z⟩
    · wp_walk using begun
      exact ⟨_, rfl, z⟩
end Bw
/-! Part 14. enumerate of a tuple, zip of two tuples in a comprehension, x *= y. -/
namespace Bw
open PySem PySem.Spec PyProof.Rows L2
section
variable {pg : Program} {wo : World} {Ar : Around} {E : Value → Shared → Prop} {s : Shared}
theorem call_enumT {v : Value} {ob : Obj} {G : Heap → Prop} {Q : Value → Shared → Prop} (B : Begins v ob G) (z : G s.heap)
    (q : ∀ h', IsEnum h' (s.heap.objs.size + 1) s.heap.objs.size 0 .none → h'.get? s.heap.objs.size = some ob →
      (∀ b o, s.heap.get? b = some o → h'.get? b = some o) → Q (.ref (s.heap.objs.size + 1)) { s with heap := h' }) :
    wpAny (model pg wo) Ar (call (.type "enumerate") [v]) Q E s := by
  refine callType_new F.called_enumerate (by decide) (F.typeCall_enumerate_1 _) (F.newCall_enumerate_1 _) (fun o => F.args_object_init_2 o _) F.entry_enumerate_new (meets_newT B) ⟨z, ?_⟩
  have sz : (s.heap.push ob).objs.size = s.heap.objs.size + 1 := Heap.size_push ..
  show _ ∧ _
  rw [sz]
  have en : IsEnum ((s.heap.push ob).push { cls := .type "enumerate", data := .fields #[.none, .bool false, .ref s.heap.objs.size, rawInt 0, .none, .none] })
      (s.heap.objs.size + 1) s.heap.objs.size 0 .none := by
    rw [← sz]
    exact Heap.get?_push_size _ rfl
  exact ⟨⟨_, en, rfl⟩, q _ en (Heap.get?_push_of_some _ (Heap.get?_push_size _ B.free)) fun b o y => Heap.get?_push_of_some _ (Heap.get?_push_of_some _ y)⟩
end
section
variable {pg : Program} {wo : World} {Ar : Around} {E : Value → Shared → Prop} {s : Shared}
theorem wpAny_pyNext_tupEnd {e it a : Addr} {i : Nat} {items : Array Value} {old : Value} {Q : Option Value → Shared → Prop} (hh : Ar.handled = none)
    (he : IsEnum s.heap e it ((i : Nat) : Int) old) (hit : s.heap.IsTupleIter it a i) (ht : s.heap.IsTuple a items) (na : a ≠ it) (hi : items.size ≤ i)
    (q : ∀ h', Heap.ExtBut it s.heap h' → Q none { s with heap := h' }) : wpAny (model pg wo) Ar (pyNext (.ref e)) Q E s := by
  have ty : s.TypeIs (.ref e) "enumerate" := ⟨_, he, rfl⟩
  unfold pyNext
  refine wpAny_bind (wpAny_attempt (wpAny_callSpecial?_slot (name := Str.ofString "__next__") ty F.slot_enumerate_next (wpAny_call_entry F.slot_enumerate_next ty F.entry_enumerate_next ?_ (F.args_enumerate_next_1 _))))
  show wpAny _ _ (field (.ref e) 2 >>= _) _ _ _
  refine wpAny_bind (wpAny_field he rfl (x := .ref it) rfl ?_)
  refine wpAny_bind (wpAny_nextOf_tuple_end (by simpa using hh) hit ht (by simpa using hi) fun h' x ex hx => ?_)
  obtain ⟨o, go, co⟩ := hx
  exact wpAny_bind (wpAny_isInstance (T := "StopIteration") (b := true) ⟨o, go, co⟩ isSubtype_stop (wpAny_pure (q _ ex)))
end
/-- the items of the tuple at a, each in a new pair behind its index -/
def IteT (K : PySem.W.Frag) (a : Addr) : It :=
  ⟨fun i H => ∃ (xs : List V) (x : V), SqT K H a xs ∧ xs[i]? = some x,
   fun i H v H' => ∃ T x, v = .ref T ∧ H T = none ∧ H' = upd H T (.tup [.int (i : Nat), x]) ∧ ∀ xs, SqT K H a xs → xs[i]? = some x,
   fun i H => ∃ xs : List V, SqT K H a xs ∧ xs.length ≤ i⟩
theorem walk_enumT {K : PySem.W.Frag} {a : Addr} {xs : List V} : Walk (IteT K a) xs.length (fun H => SqT K H a xs) (YPair (fun i => some (.int (i : Nat))) (fun i => xs[i]?)) := by
  refine ⟨fun i _ hi q => ⟨xs, xs[i], q, List.getElem?_eq_getElem hi⟩, fun _ q => ⟨xs, q, Nat.le_refl _⟩, fun i H v H' _ q y => ?_⟩
  obtain ⟨T, x, e1, e2, e3, e4⟩ := y
  exact ⟨T, _, x, e1, e2, e3, rfl, e4 xs q⟩
theorem turn_enumT {P : Program} {w : World} {K : PySem.W.Frag} {elts : List Expr} {kk : Nat} {tp : PySem.Pos} (a e it : Addr) :
    Turn P w K (.Tuple elts kk tp) (IteT K a) [e, it] e (fun i h => (∃ old, IsEnum h e it ((i : Nat) : Int) old) ∧ h.IsTupleIter it a i ∧ e ≠ it) where
  mem := List.mem_cons_self
  obj := fun i h st b hb => by
    obtain ⟨⟨old, he⟩, ⟨o, ho, hc, hd⟩, _⟩ := st
    rcases List.mem_cons.mp hb with z | z
    · subst z
      exact ⟨_, he, fun v q => nomatch q⟩
    · obtain rfl := List.mem_singleton.mp z
      refine ⟨o, ho, fun v q => ?_⟩
      rw [hd] at q
      cases q
  keep := fun i h h' st k => ⟨st.1.imp fun old he => k e List.mem_cons_self _ he, st.2.1.at fun o q => k it (by simp) o q, st.2.2⟩
  item := by
    intro X hP hw hK hc i pins s σ H E I hf st hg
    subst hP hw hK
    obtain ⟨⟨old, he⟩, hit, hne⟩ := st
    obtain ⟨xs, x0, hq, hx⟩ := hg
    obtain ⟨its, rv, pt, hz⟩ := I.tuple hq
    have tup : s.heap.IsTuple a its.toArray := pt
    obtain ⟨u0, hu, ru⟩ := rv.get hx
    have nai : a ≠ it := fun z => by
      obtain ⟨o1, g1, c1, _⟩ := tup
      obtain ⟨o2, g2, c2, _⟩ := hit
      rw [z, g2] at g1
      cases g1
      rw [c1] at c2
      injection c2 with c3
      revert c3
      decide
    have nea : e ≠ a := fun z => by
      obtain ⟨o1, g1, c1, _⟩ := tup
      rw [← z, he] at g1
      cases g1
      injection c1 with c3
      revert c3
      decide
    have hel : e < s.heap.objs.size := Heap.lt_size he
    have hil : it < s.heap.objs.size := by
      obtain ⟨_, q, _⟩ := hit
      exact Heap.lt_size q
    have hlt : i < its.toArray.size := by
      rw [List.size_toArray]
      exact (List.getElem?_eq_some_iff.mp hu).1
    refine wpAny_pyNext_enum_itemD (Draws.tuple (A := X.A.in1) (I.ok.hd hc) it a nai its.toArray) he ⟨hit, tup⟩ hlt hne (by simp [hne, nea]) fun x h' tk hPx ho hst' hT hsz hk => ?_
    have exu : x = u0 := by
      have h1 : its.toArray[i]? = some x := hPx
      rw [List.getElem?_toArray, hu] at h1
      exact (Option.some.inj h1).symm
    subst exu
    refine ⟨_, rfl, wpAny_letOwnedTupleGo_enum (s := { s with heap := h', toks := tk + 1 }) ho fun h2 he2 sb => ?_⟩
    have hT2 : h2.get? s.heap.objs.size = some { cls := .type "tuple", data := .seq #[.int i tk, x] } := (sb.2 _ (Nat.ne_of_gt hel)).trans hT
    have fresh : ObjOk X.prog X.w (upd H s.heap.objs.size (.tup [.int (i : Nat), x0])) h2 s.heap.objs.size (.tup [.int (i : Nat), x0]) :=
      ⟨by show 2 ≤ sizeLine; decide, [.int i tk, x], .cons ⟨_, rfl⟩ (.cons ru .nil), ⟨_, hT2, rfl, _, rfl⟩⟩
    have I1 : Inv X pins σ (upd H s.heap.objs.size (.tup [.int (i : Nat), x0])) { s with heap := h2, toks := tk + 1 } :=
      I.turnedNew (ch := [e, it]) (fun b o hb q => (sb.2 b fun z => hb (by simp [z])).trans (hk b o (fun z => hb (by simp [z])) (fun z => hb (by simp [z])) q)) hf (Nat.le_refl _) fresh
    refine ⟨.ref s.heap.objs.size, _, I1, rfl, ⟨_, x0, rfl, I.hok.fresh (Nat.le_refl _), rfl, fun ys hy => ?_⟩, ⟨⟨x, ?_⟩, hst'.1.at fun o q => (sb.2 it (Ne.symm hne)).trans q, hne⟩, fun b hb => ?_⟩
    · rw [I.tuple_inj hy hq]
      exact hx
    · have e1 : ((i + 1 : Nat) : Int) = (i : Int) + 1 := by omega
      rw [e1]
      exact he2
    · have hb2 : b < s.heap.objs.size := by
        rcases List.mem_cons.mp hb with z | z
        · rw [z]
          exact hel
        · rw [List.mem_singleton.mp z]
          exact hil
      rw [upd_ne (Nat.ne_of_lt hb2)]
      exact (hf b hb).1
  done := by
    intro X hP hw hK hc i pins s σ H E I hf st hg
    subst hP hw hK
    obtain ⟨⟨old, he⟩, hit, hne⟩ := st
    obtain ⟨xs, hq, hx⟩ := hg
    obtain ⟨its, rv, pt, hz⟩ := I.tuple hq
    have tup : s.heap.IsTuple a its.toArray := pt
    have nai : a ≠ it := fun z => by
      obtain ⟨o1, g1, c1, _⟩ := tup
      obtain ⟨o2, g2, c2, _⟩ := hit
      rw [z, g2] at g1
      cases g1
      rw [c1] at c2
      injection c2 with c3
      revert c3
      decide
    obtain ⟨f0, f1, f2, f3, f4, f5⟩ := hf it (by simp)
    have hl := rv.length
    exact wpAny_pyNext_tupEnd (I.ok.hd hc) he hit tup nai (by rw [List.size_toArray]; omega) fun h' eb => ⟨rfl, I.turned (t' := s.toks) (fun b o hb q => eb b o hb q) f0 f1 f3 f4 f5⟩
  self := fun A i s Q E st h => let ⟨⟨_, he⟩, _⟩ := st; wpAny_pyIter_enum he h
def iEnumT (K : PySem.W.Frag) (ta : TA) : TI := fun σ H R => ta σ H fun vs H1 => ∃ a xs, vs = [.ref a] ∧ SqT K H1 a xs ∧ R (IteT K a) H1
theorem pi_enumT {X : Cx} {e : Expr} {ta : TA} {p pos tp : PySem.Pos} {elts : List Expr} {kk : Nat} (hg : Gl X "enumerate") (hm : X.mg "enumerate" = none) (ha : PA X [e] ta) (hs : starEach [e] X.env = [(false, eval e X.env)] := by rfl) :
    PI X (.Tuple elts kk tp) (.Call (.Name "enumerate" p) [e] [] pos) (iEnumT X.K ta) := by
  refine ⟨fun pins s σ H R I h => ?_⟩
  refine Call_ (ld_blt I hg hm boot_enumerate (PyProof.Rows.callWith_type1 (thn (ha.run pos pins s σ H _ I h) fun us s1 ⟨vs, H1, I1, r1, q1⟩ => ?_) hs rfl))
  obtain ⟨a, xs, ex, hq, q⟩ := q1
  subst ex
  cases r1 with
  | cons r rr =>
    cases rr
    cases r
    obtain ⟨its, rv, pt, hz⟩ := I1.tuple hq
    refine call_enumT (begins_tuple a its.toArray) pt fun h' he hit hk => wpAny_pyIter_enum he ?_
    have I2 : Inv X pins σ H1 { s1 with heap := h' } := I1.kept (t' := s1.toks) hk
    refine ⟨s1.heap.objs.size + 1, [s1.heap.objs.size + 1, s1.heap.objs.size], _, _, H1, rfl, I2, turn_enumT a (s1.heap.objs.size + 1) s1.heap.objs.size, ⟨⟨.none, he⟩, ⟨_, hit, rfl, rfl⟩, Nat.succ_ne_self _⟩, fun b hb => ?_, q⟩
    have hle : s1.heap.objs.size ≤ b := by
      rcases List.mem_cons.mp hb with z | z
      · rw [z]
        exact Nat.le_succ _
      · rw [List.mem_singleton.mp z]
        exact Nat.le_refl _
    exact I1.fpOk hle (I1.hok.fresh hle)
theorem walk_zipT {K : PySem.W.Frag} {a b : Addr} {xs ys : List V} (hl : xs.length = ys.length) : Walk (RZ.ItzT K a b) xs.length (fun H => SqT K H a xs ∧ SqT K H b ys) (YPair (fun i => xs[i]?) (fun i => ys[i]?)) := by
  refine ⟨fun i _ hi q => ⟨xs, ys, xs[i], ys[i]'(by omega), q.1, q.2, List.getElem?_eq_getElem hi, List.getElem?_eq_getElem (by omega)⟩, fun _ q => ⟨xs, ys, q.1, q.2, .inl (Nat.le_refl _)⟩, fun i H v H' _ q y => ?_⟩
  obtain ⟨T, x, z, e1, e2, e3, e4, e5⟩ := y
  exact ⟨T, x, z, e1, e2, e3, e4 xs q.1, e5 ys q.2⟩
/-- a pair told of within a comprehension -/
theorem pg_tupK {K : PySem.W.Frag} {X : Cx} (hK : X.K = K) {es : List Expr} {k : Nat} {t : TGs} {n : Nat} {pos : PySem.Pos} (hc : X.calm = true) (h : PGs X es t) (hn : (assignEach es X.env).length = n := by rfl)
    (hst : (assignEach es X.env).findIdx? (·.1) = none := by rfl) : PG X (.Tuple es k pos) (gTup K n t) := by
  subst hK
  exact pg_tup hc h hn hst
/-- x *= y, numbers of any size -/
theorem ip_mulW {X : Cx} : PIp X .Mult (fun x y H Q => ∃ i j, x = .int i ∧ y = .int j ∧ CMulW i j ∧ Q (.int (i * j)) H) := by
  intro pins s σ H x y v u Q I r1 r2 h
  obtain ⟨i, j, rfl, rfl, hc, q⟩ := h
  obtain ⟨t, rfl⟩ := r1
  obtain ⟨t2, rfl⟩ := r2
  exact PyProof.Rows.imul_int ⟨.int _, H, I.tok _, ⟨_, rfl⟩, q⟩ hc.ok
end Bw
/-! Lists of one's own beside the well; a drawn order (second family of drawings). -/
namespace Kx
open PySem PySem.Spec PyProof.Rows L2 Bw
abbrev s_law_order : Stmt := topS 33
abbrev n_law_order : List Str := ["well", "size", "found", "at"]
theorem c_law_order : FnScope n_law_order ["well", "size"] (defScope s_law_order) :=
  ⟨rfl, rfl, rfl, by decide +kernel, rfl, by decide +kernel, by decide +kernel⟩

def nats (S : List Nat) : List V := S.map fun k : Nat => V.int k
theorem nats_len (S : List Nat) : (nats S).length = S.length := List.length_map _
theorem nats_get {S : List Nat} {i : Nat} {v : V} (h : (nats S)[i]? = some v) : ∃ k, S[i]? = some k ∧ v = .int (k : Nat) := by
  obtain ⟨k, h1, h2⟩ := map_some h
  exact ⟨k, h1, h2.symm⟩
theorem erase_nats : ∀ (S : List Nat) (i : Nat), (nats S).eraseIdx i = nats (S.eraseIdx i)
  | [], _ => rfl
  | a :: S, 0 => rfl
  | a :: S, i + 1 => congrArg (V.int (a : Nat) :: ·) (erase_nats S i)
theorem seqI {i n : Nat} (h : i < n) : seqIndex? (i : Int) n = some i := by
  rw [seqIndex_of (by omega) (by omega)]
  rfl
/-- the pairs E stand at ts -/
def TupsAt (H : Hp) (ts : List Addr) (E : List (Nat × Nat)) : Prop := ts.length = E.length ∧ ∀ (i : Nat) t e, ts[i]? = some t → E[i]? = some e → H t = some (.tup [.int (e.1 : Nat), .int (e.2 : Nat)])
theorem TupsAt.mono {H H' : Hp} {ts : List Addr} {E : List (Nat × Nat)} (h : TupsAt H ts E) (k : ∀ t xs, H t = some (.tup xs) → H' t = some (.tup xs)) : TupsAt H' ts E := ⟨h.1, fun i t e h1 h2 => k _ _ (h.2 i t e h1 h2)⟩
theorem TupsAt.snoc {H : Hp} {ts : List Addr} {E : List (Nat × Nat)} (h : TupsAt H ts E) {t : Addr} {a b : Nat} (e : H t = some (.tup [.int (a : Nat), .int (b : Nat)])) : TupsAt H (ts ++ [t]) (E ++ [(a, b)]) := by
  refine ⟨by rw [List.length_append, List.length_append, h.1]; rfl, fun i t' e' h1 h2 => ?_⟩
  have hl := h.1
  by_cases c : i < ts.length
  · rw [List.getElem?_append_left c] at h1
    rw [List.getElem?_append_left (by omega)] at h2
    exact h.2 i t' e' h1 h2
  · have hi : i = ts.length := by
      have := (List.getElem?_eq_some_iff.mp h1).1
      rw [List.length_append, List.length_singleton] at this
      omega
    rw [List.getElem?_append_right (by omega), show i - ts.length = 0 by omega] at h1
    rw [List.getElem?_append_right (by omega), show i - E.length = 0 by omega] at h2
    have h1' : t = t' := by simpa using h1
    have h2' : (a, b) = e' := by simpa using h2
    rw [← h1', ← h2']
    exact e
theorem WellAt.frame {w l m : Addr} {o : HO} {H : Hp} (h : WellAt w l H) (h1 : m ≠ w) (h2 : m ≠ l) : WellAt w l (upd H m o) := by
  obtain ⟨st, n, ns, e1, e2, e3, e4⟩ := h
  exact ⟨st, n, ns, by rw [upd_ne (Ne.symm h1)]; exact e1, e2, by rw [upd_ne (Ne.symm h2)]; exact e3, e4⟩
theorem WellAt.new {w l m : Addr} {o : HO} {H : Hp} (h : WellAt w l H) (hm : H m = none) : WellAt w l (upd H m o) := by
  have h' := h
  obtain ⟨st, n, ns, e1, e2, e3, e4⟩ := h'
  exact h.frame (Ne.symm (ne_of_none e1 hm)) (Ne.symm (ne_of_none e3 hm))
theorem WellAt.ne {w l m : Addr} {H : Hp} (h : WellAt w l H) (hm : H m = none) : m ≠ w ∧ m ≠ l := by
  obtain ⟨st, n, ns, e1, e2, e3, e4⟩ := h
  exact ⟨Ne.symm (ne_of_none e1 hm), Ne.symm (ne_of_none e3 hm)⟩
theorem WellAt.notTup {w l : Addr} {H : Hp} {xs : List V} (h : WellAt w l H) {t : Addr} (e : H t = some (.tup xs)) : t ≠ w := by
  obtain ⟨st, n, ns, e1, _⟩ := h
  intro z
  rw [z, e1] at e
  cases e

section
variable {H0 H H' : Hp} {w l l' m t : Addr}
theorem well_ne {x : Addr} {o : HO} (h : l' = l ∨ H l' = none) (c : x ≠ l) (e : H x = some o) : x ≠ l' := by
  rcases h with h | h
  · rw [h]
    exact c
  · exact ne_of_none e h
theorem tup_frame {H : Hp} {m : Addr} {o : HO} (hm : ∀ xs, H m ≠ some (.tup xs)) : ∀ t xs, H t = some (.tup xs) → (upd H m o) t = some (.tup xs) := fun t xs e => by
  rw [upd_ne (fun z => hm xs (by rw [← z]; exact e))]
  exact e
end
theorem well_sameS {H H' : Hp} {w l : Addr} (W : WellAt w l H) (s : Same H H') : WellAt w l H' := by
  obtain ⟨st, x, ns, e1, e2, e3, e4⟩ := W
  exact ⟨st, x, ns, s _ _ e1, e2, s _ _ e3, e4⟩
/-- the fraction q, a tuple of the heap -/
def FrA (H : Hp) (v : V) (q : Rat) : Prop := ∃ a, v = .ref a ∧ H a = some (.tup [.int q.num, .int q.den])
theorem FrA.same {H H' : Hp} {v : V} {q : Rat} (s : Same H H') (h : FrA H v q) : FrA H' v q := by
  obtain ⟨a, rfl, e⟩ := h
  exact ⟨a, rfl, s _ _ e⟩
theorem FrA.fr {K : PySem.W.Frag} {H : Hp} {v : V} {q : Rat} (h : FrA H v q) : FrR K H v q := by
  obtain ⟨a, rfl, e⟩ := h
  exact ⟨a, rfl, .of e⟩
theorem FrA.frame {H : Hp} {v : V} {q : Rat} {m : Addr} {o : HO} (h : FrA H v q) (hm : ∀ xs, H m ≠ some (.tup xs)) : FrA (upd H m o) v q := by
  obtain ⟨a, rfl, e⟩ := h
  exact ⟨a, rfl, tup_frame hm _ _ e⟩
theorem dq_frA {W : Addr → Prop} {H : Hp} {v : V} {q : Rat} (h : Dq W H v (frD q)) : FrA H v q := by
  obtain ⟨a, rfl, _, e⟩ := h.frI
  exact ⟨a, rfl, e⟩
/-- what may be said of what comes behind -/
theorem seq_cut {a b : TS} {D : Ends} {σ : L2.St} {H : Hp} (R : L2.St → Hp → Prop) (h : ∀ σ H, R σ H → b D σ H) (k : ∀ N' : L2.St → Hp → Prop, (∀ σ H, R σ H → N' σ H) → a { D with nx := N' } σ H) : tSeq a b D σ H := k (b D) h
/-- lists of one's own beside the well -/
structure OwnH (H0 H : Hp) (w l : Addr) (own : Addr → Option (List V)) : Prop where
  kp : Kp (At w) H0 H
  W : WellAt w l H
  own : ∀ a xs, own a = some xs → H a = some (.lst xs) ∧ H0 a = none ∧ a ≠ w ∧ a ≠ l
def setO (own : Addr → Option (List V)) (m : Addr) (ys : List V) : Addr → Option (List V) := fun b => if b = m then some ys else own b
theorem setO_same {own : Addr → Option (List V)} {m : Addr} {ys : List V} : setO own m ys m = some ys := if_pos rfl
theorem setO_ne {own : Addr → Option (List V)} {m b : Addr} {ys : List V} (h : b ≠ m) : setO own m ys b = own b := if_neg h
section
variable {H0 H H' : Hp} {w l l' m : Addr} {own : Addr → Option (List V)} {xs ys : List V} {o : HO}
theorem OwnH.pick (h : OwnH H0 H w l own) (k : Kp (At w) H H') (W : WellAt w l' H') (hl : l' = l ∨ H l' = none) : OwnH H0 H' w l' own :=
  ⟨h.kp.trans k, W, fun a xs e => by
    obtain ⟨h1, h2, h3, h4⟩ := h.own a xs e
    exact ⟨k _ _ h3 h1, h2, h3, well_ne hl h4 h1⟩⟩
theorem OwnH.new (h : OwnH H0 H w l own) (hm : H m = none) : OwnH H0 (upd H m o) w l own :=
  ⟨h.kp.trans (Kp.new hm), h.W.new hm, fun a xs e => by
    obtain ⟨h1, h2, h3, h4⟩ := h.own a xs e
    exact ⟨same_new hm _ _ h1, h2, h3, h4⟩⟩
theorem OwnH.set (h : OwnH H0 H w l own) (e : own m = some xs) : OwnH H0 (upd H m (.lst ys)) w l (setO own m ys) := by
  obtain ⟨h1, h2, h3, h4⟩ := h.own m xs e
  refine ⟨h.kp.upd h2, h.W.frame h3 h4, fun a zs g => ?_⟩
  by_cases c : a = m
  · subst c
    rw [setO_same] at g
    obtain rfl := Option.some.inj g
    exact ⟨upd_same, h2, h3, h4⟩
  · rw [setO_ne c] at g
    obtain ⟨g1, g2, g3, g4⟩ := h.own a zs g
    exact ⟨by rw [upd_ne c]; exact g1, g2, g3, g4⟩
theorem OwnH.add (h : OwnH H0 H w l own) (hm : H m = none) : OwnH H0 (upd H m (.lst ys)) w l (setO own m ys) := by
  have h2 := h.new (o := .lst ys) hm
  refine ⟨h2.kp, h2.W, fun a zs g => ?_⟩
  by_cases c : a = m
  · subst c
    rw [setO_same] at g
    obtain rfl := Option.some.inj g
    exact ⟨upd_same, kp_free h.kp hm (h.W.ne hm).1, (h.W.ne hm).1, (h.W.ne hm).2⟩
  · rw [setO_ne c] at g
    exact h2.own a zs g
theorem OwnH.ne (h : OwnH H0 H w l own) (hm : H m = none) {a : Addr} (e : own a = some xs) : a ≠ m := ne_of_none (h.own a xs e).1 hm
theorem OwnH.nt (h : OwnH H0 H w l own) (e : own m = some xs) : ∀ zs, H m ≠ some (.tup zs) := fun zs => by
  rw [(h.own m xs e).1]
  exact fun z => nomatch z
end
/-- rows of fractions in lists of one's own -/
structure RowsO (own : Addr → Option (List V)) (H : Hp) (rs : List Addr) (n : Nat) (R : Nat → Nat → Rat) : Prop where
  len : rs.length = n
  nd : ∀ (i j : Nat) r, rs[i]? = some r → rs[j]? = some r → i = j
  row : ∀ (i : Nat) r, rs[i]? = some r → ∃ xs, own r = some xs ∧ xs.length = n ∧ ∀ (j : Nat) v, xs[j]? = some v → FrA H v (R i j)
theorem FrA.keepT {H H' : Hp} {v : V} {q : Rat} (h : FrA H v q) (k : ∀ t xs, H t = some (.tup xs) → H' t = some (.tup xs)) : FrA H' v q := by
  obtain ⟨a, rfl, e⟩ := h
  exact ⟨a, rfl, k _ _ e⟩
theorem RowsO.mono {own own' : Addr → Option (List V)} {H H' : Hp} {rs : List Addr} {n : Nat} {R : Nat → Nat → Rat} (h : RowsO own H rs n R) (k : ∀ t xs, H t = some (.tup xs) → H' t = some (.tup xs)) (ho : ∀ r ∈ rs, own' r = own r) : RowsO own' H' rs n R :=
  ⟨h.len, h.nd, fun i r e => by
    obtain ⟨xs, h1, h2, h3⟩ := h.row i r e
    exact ⟨xs, by rw [ho r (List.mem_of_getElem? e)]; exact h1, h2, fun j v ev => (h3 j v ev).keepT k⟩⟩
theorem RowsO.at {own : Addr → Option (List V)} {H : Hp} {rs : List Addr} {n : Nat} {R : Nat → Nat → Rat} (h : RowsO own H rs n R) {i : Nat} (hi : i < n) : ∃ r xs, rs[i]? = some r ∧ own r = some xs ∧ xs.length = n ∧ ∀ (j : Nat) v, xs[j]? = some v → FrA H v (R i j) := by
  have hl := h.len
  have e : rs[i]? = some (rs[i]'(by omega)) := List.getElem?_eq_getElem (by omega)
  obtain ⟨xs, h1, h2, h3⟩ := h.row i _ e
  exact ⟨_, xs, e, h1, h2, h3⟩
theorem RowsO.set {own : Addr → Option (List V)} {H H0 : Hp} {w l : Addr} {rs : List Addr} {n a b : Nat} {R : Nat → Nat → Rat} {r : Addr} {xs : List V} {v : V} {q : Rat} (h : RowsO own H rs n R) (g : OwnH H0 H w l own) (e : rs[a]? = some r) (ex : own r = some xs) (hv : FrA H v q) :
    RowsO (setO own r (xs.set b v)) (upd H r (.lst (xs.set b v))) rs n (fun i j => if i = a ∧ j = b then q else R i j) := by
  have kt := tup_frame (o := .lst (xs.set b v)) (g.nt ex)
  refine ⟨h.len, h.nd, fun i r' e' => ?_⟩
  obtain ⟨ys, h1, h2, h3⟩ := h.row i r' e'
  by_cases c : i = a
  · subst c
    rw [e] at e'
    obtain rfl := Option.some.inj e'
    rw [ex] at h1
    obtain rfl := Option.some.inj h1
    refine ⟨_, setO_same, by rw [List.length_set]; exact h2, fun j u ev => ?_⟩
    by_cases cj : j = b
    · subst cj
      have l1 := (List.getElem?_eq_some_iff.mp ev).1
      rw [List.length_set] at l1
      rw [List.getElem?_set_self l1] at ev
      obtain rfl := Option.some.inj ev
      rw [if_pos ⟨rfl, rfl⟩]
      exact hv.keepT kt
    · rw [List.getElem?_set_ne (Ne.symm cj)] at ev
      rw [if_neg fun z => cj z.2]
      exact (h3 j u ev).keepT kt
  · have ne : r' ≠ r := fun z => c (h.nd i a r (by rw [← z]; exact e') e)
    refine ⟨ys, by rw [setO_ne ne]; exact h1, h2, fun j u ev => ?_⟩
    rw [if_neg fun z => c z.1]
    exact (h3 j u ev).keepT kt
theorem perm_ins {u : List Nat} {n i : Nat} (h : u.Perm (List.range n)) : (u.take i ++ n :: u.drop i).Perm (List.range (n + 1)) := by
  rw [List.range_succ]
  have e1 : (u.take i ++ n :: u.drop i).Perm (n :: (u.take i ++ u.drop i)) := List.perm_middle
  rw [List.take_append_drop] at e1
  exact e1.trans ((List.Perm.cons n h).trans (List.perm_append_singleton n (List.range n)).symm)
section
variable {P : Program} {w : World} {K : PySem.W.Frag} {mg : Str → Option Value} {base : Heap}
/-- the numbers from 0 to n - 1 in a drawn order -/
def spOrder : Sp := fun vs H Q _ => ∃ (w l : Addr) (n : Nat), vs = [.ref w, .int (n : Nat)] ∧ n ≤ 100 ∧ WellAt w l H ∧
  ∀ (H' : Hp) (l' p : Addr) (u : List Nat), Kp (At w) H H' → WellAt w l' H' → (l' = l ∨ H l' = none) → H p = none → p ≠ w → p ≠ l' → H' p = some (.lst (nats u)) → u.Perm (List.range n) → Q (.ref p) H'
theorem ok_lorder {f : Addr} {fd : FuncData} (F : Fun K "_law_order" "_law_order" s_law_order f fd) (M : Mb mg) (Dlaw_draw : Df P w K mg base 1 "_law_draw" ["well", "limit"] spPickL) : FnOk P w K mg base CX0 2 f fd ["well", "size"] spOrder := by
  refine F.ok c_law_order (fun vs H Q E h => ?_) (fun cdv A outer s H vs Q E hr h => ?_)
  · obtain ⟨w, l, n, rfl, _⟩ := h
    rfl
  · obtain ⟨w, l, n, rfl, n1, hW, q⟩ := h
    refine ⟨_, (pss_cons (ps_set (i := 2) c_law_order.nd rfl (.inl rfl) (pe_lst pa_nil))
 (pss_cons (ps_for PassesOwn.never rfl (pi_range1 (by rfl) M.range (pa_cons (pv 1) pa_nil)) (pg_name (i := 3) c_law_order.nd rfl (.inl rfl))
 (pss_one (ps_expr (pe_bm PySem.F.plainAttrs_list PySem.F.slot_list_insert PySem.F.type_list_insert mt_insert (pv 2) (pa_cons (pe_call Dlaw_draw.G (hr.mono (by first | decide | omega)) rfl Dlaw_draw.g Dlaw_draw.kp Dlaw_draw.b .nil pass0 (pa_cons (pv 0) (pa_cons (pe_op op_add (pv 3) pe_int) pa_nil))) (pa_cons (pv 3) pa_nil))))))
 (pss_one (ps_ret (pv 2))))), ?_⟩
    have up : ∀ {H' H'' : Hp} {a b c : Addr}, (a = l ∨ H a = none) → (b = a ∨ H' b = none) → Kp (At w) H H' → WellAt w b H'' → (b = l ∨ H b = none) := fun {H' H'' a b c} ha hb k W => by
      rcases hb with hb | hb
      · rw [hb]
        exact ha
      · exact .inr (kp_free k hb (by
          obtain ⟨_, _, _, _, e, _⟩ := W
          exact e))
    refine ⟨Nat.zero_le _, fun p np => ?_⟩
    have h0 : OwnH H (upd H p (.lst (nats []))) w l (setO (fun _ => none) p (nats [])) := OwnH.add (own := fun _ => none) ⟨.refl _, hW, fun a xs e => nomatch e⟩ np
    have eq0 : upd H p (.lst []) = upd H p (.lst (nats [])) := rfl
    rw [eq0]
    refine ⟨_, rfl, _, rfl, by omega, by omega, ?_⟩
    have em : ((n : Nat) : Int).toNat = n := Int.toNat_natCast n
    rw [em]
    refine for_range (lo := 0) (n := n) (fun t σ H' => ∃ l' own u y3, σ = [some (.ref w), some (.int (n : Nat)), some (.ref p), y3] ∧ (l' = l ∨ H l' = none) ∧ OwnH H H' w l' own ∧ own p = some (nats u) ∧ u.Perm (List.range t))
      ⟨l, _, [], _, rfl, .inl rfl, h0, setO_same, .refl _⟩ ?_ ?_
    · clear h0 eq0
      rintro t σ H1 ht ⟨l1, own1, u, y3, rfl, q1, h1, oP, pu⟩
      have ul : u.length = t := by
        have := pu.length_eq
        rwa [List.length_range] at this
      have e0 : (0 : Int) + ((t : Nat) : Int) = ((t : Nat) : Int) := by omega
      rw [e0]
      refine ⟨_, rfl, .inl ⟨rfl, _, .of (h1.own _ _ oP).1⟩, ?_⟩
      refine ⟨_, rfl, _, rfl, _, _, rfl, rfl, w, l1, _, rfl, by omega, by omega, h1.W, fun H2 d l2 d0 d1 k2 W2 hl2 => ?_⟩
      have h2 := h1.pick k2 W2 hl2
      have q2 := up (c := w) q1 hl2 h1.kp W2
      obtain ⟨i, rfl⟩ : ∃ i : Nat, d = (i : Int) := ⟨d.toNat, by omega⟩
      have hi : i ≤ t := by omega
      refine ⟨_, rfl, p, _, (i : Int), .int (t : Nat), rfl, rfl, (h2.own _ _ oP).1, by rw [nats_len]; exact sz63' (by omega), d0, by omega, ?_⟩
      have e2 : (nats u).take ((i : Nat) : Int).toNat ++ [V.int (t : Nat)] ++ (nats u).drop ((i : Nat) : Int).toNat = nats (u.take i ++ t :: u.drop i) := by
        unfold nats
        rw [Int.toNat_natCast, List.map_append, List.map_cons, List.map_take, List.map_drop, List.append_assoc]
        rfl
      rw [e2]
      exact ⟨l2, _, _, _, rfl, q2, h2.set oP, setO_same, perm_ins pu⟩
    · rintro σ H1 ⟨l1, own1, u, y3, rfl, q1, h1, oP, pu⟩
      obtain ⟨g1, g2, g3, g4⟩ := h1.own _ _ oP
      exact ⟨_, rfl, q H1 l1 p u h1.kp h1.W q1 g2 g3 g4 g1 pu⟩
end
end Kx
/-! The law looks at a value itself. -/
namespace Kx
open PySem PySem.Spec PyProof.Rows L2 Bw
abbrev s_law_is_int : Stmt := topS 49
abbrev n_law_is_int : List Str := ["thing"]
theorem c_law_is_int : FnScope n_law_is_int ["thing"] (defScope s_law_is_int) :=
  ⟨rfl, rfl, rfl, by decide +kernel, rfl, by decide +kernel, by decide +kernel⟩

abbrev s_law_is_row : Stmt := topS 50
abbrev n_law_is_row : List Str := ["thing", "size"]
theorem c_law_is_row : FnScope n_law_is_row ["thing", "size"] (defScope s_law_is_row) :=
  ⟨rfl, rfl, rfl, by decide +kernel, rfl, by decide +kernel, by decide +kernel⟩

abbrev s_law_is_frac : Stmt := topS 51
abbrev n_law_is_frac : List Str := ["thing"]
theorem c_law_is_frac : FnScope n_law_is_frac ["thing"] (defScope s_law_is_frac) :=
  ⟨rfl, rfl, rfl, by decide +kernel, rfl, by decide +kernel, by decide +kernel⟩

section
variable {P : Program} {w : World} {K : PySem.W.Frag} {mg : Str → Option Value} {base : Heap}
theorem ok_lnum {f : Addr} {fd : FuncData} (F : Fun K "_law_is_int" "_law_is_int" s_law_is_int f fd) (M : Mb mg) : FnOk P w K mg base CX0 1 f fd ["thing"] (spAsk isNum) := by
  refine F.ok c_law_is_int (fun vs H Q E h => ?_) (fun cdv A outer s H vs Q E hr h => ?_)
  · obtain ⟨_, v, d, rfl, _⟩ := h
    rfl
  · obtain ⟨W, v, d, rfl, hd, q⟩ := h
    refine ⟨_, (pss_one (ps_ret (pe_and (pe_callB call_isD (by rfl) M.isinstance (by decide +kernel) (pa_cons (pv 0) (pa_cons (pe_bltn (v := .ty "int") rfl M.int (by decide +kernel) rfl) pa_nil))) (pe_one (pe_not (pe_callB call_isD (by rfl) M.isinstance (by decide +kernel) (pa_cons (pv 0) (pa_cons (pe_bltn (v := .ty "bool") rfl M.bool (by decide +kernel) rfl) pa_nil)))))))), ?_⟩
    refine ⟨_, rfl, W, v, d, "int", _, rfl, hd, kit_int d, _, rfl, ?_⟩
    cases d with
    | int i => exact ifT rfl ⟨_, rfl, W, v, _, "bool", _, rfl, hd, kit_bool _, _, rfl, q⟩
    | bool b => exact ifT rfl ⟨_, rfl, W, v, _, "bool", _, rfl, hd, kit_bool _, _, rfl, q⟩
    | _ => exact ifF (fun z => nomatch z) q
def isLen (n : Nat) : PyData → Bool
  | .tuple ds => decide (ds.length = n)
  | _ => false
def spLen : Sp := fun vs H Q _ => ∃ (W : Addr → Prop) (v : V) (d : PyData) (n : Nat), vs = [v, .int (n : Nat)] ∧ Dq W H v d ∧ Q (.bl (isLen n d)) H
theorem ok_llen {f : Addr} {fd : FuncData} (F : Fun K "_law_is_row" "_law_is_row" s_law_is_row f fd) (M : Mb mg) : FnOk P w K mg base CX0 1 f fd ["thing", "size"] spLen := by
  refine F.ok c_law_is_row (fun vs H Q E h => ?_) (fun cdv A outer s H vs Q E hr h => ?_)
  · obtain ⟨_, v, d, n, rfl, _⟩ := h
    rfl
  · obtain ⟨W, v, d, n, rfl, hd, q⟩ := h
    refine ⟨_, (pss_one (ps_ret (pe_and (pe_callB call_isD (by rfl) M.isinstance (by decide +kernel) (pa_cons (pv 0) (pa_cons (pe_bltn (v := .ty "tuple") rfl M.tuple (by decide +kernel) rfl) pa_nil))) (pe_one (pe_cmpR op_eq (pe_callB call_len_seq (by rfl) M.len (by decide +kernel) (pa_cons (pv 0) pa_nil)) (pv 1) (nomark _)))))), ?_⟩
    refine ⟨_, rfl, W, v, d, "tuple", _, rfl, hd, kit_tup d, _, rfl, ?_⟩
    cases hd with
    | tup na ea el =>
      rename_i a xs ds
      have xl := el.length
      refine ifT rfl ⟨_, rfl, a, xs, rfl, .inr (.of ea), _, rfl, rfl, ?_⟩
      have e : decide (V.int (xs.length : Nat) = V.int (n : Nat)) = isLen n (.tuple ds) := by
        show _ = decide (ds.length = n)
        refine decide_eq_decide.mpr ⟨fun z => ?_, fun z => ?_⟩
        · have := V.int.inj z
          omega
        · rw [xl, z]
      rw [e]
      exact q
    | _ => exact ifF (fun z => nomatch z) q
/-- a question about any value whose numbers are below 2 ^ n -/
def spAskB (n : Nat) (b : PyData → Bool) : Sp := fun vs H Q _ => ∃ (W : Addr → Prop) (v : V) (d : PyData), vs = [v] ∧ Dq W H v d ∧ Bd n d ∧ ∀ H', Same H H' → Q (.bl (b d)) H'
theorem ok_lisfrac {n : Nat} (hn9 : n ≤ 1000) {f : Addr} {fd : FuncData} (F : Fun K "_law_is_frac" "_law_is_frac" s_law_is_frac f fd) (M : Mb mg) (Dlaw_is_row : Df P w K mg base 1 "_law_is_row" ["thing", "size"] spLen) (Dlaw_is_int : Df P w K mg base 1 "_law_is_int" ["thing"] (spAsk isNum))
    (Dlaw_low : Df P w K mg base 1 "_law_low" ["up", "down"] spLowest) : FnOk P w K mg base CX0 2 f fd ["thing"] (spAskB n isFr) := by
  refine F.ok c_law_is_frac (fun vs H Q E h => ?_) (fun cdv A outer s H vs Q E hr h => ?_)
  · obtain ⟨_, v, d, rfl, _⟩ := h
    rfl
  · obtain ⟨W, v, d, rfl, hd, hb, q⟩ := h
    have hu := hr.units
    refine ⟨_, (pss_cons (ps_if (PW.pt (pw_or (pt_not (pt_val (pe_call Dlaw_is_row.G (hr.mono (by first | decide | omega)) rfl Dlaw_is_row.g Dlaw_is_row.kp Dlaw_is_row.b .nil pass0 (pa_cons (pv 0) (pa_cons pe_int pa_nil))))) (pw_or (pt_not (pt_val (pe_call Dlaw_is_int.G (hr.mono (by first | decide | omega)) rfl Dlaw_is_int.g Dlaw_is_int.kp Dlaw_is_int.b .nil pass0 (pa_cons (pe_ix ix_tup (pv 0) pe_int (fun _ _ => rfl)) pa_nil)))) (pw_or1 (pt_not (pt_val (pe_call Dlaw_is_int.G (hr.mono (by first | decide | omega)) rfl Dlaw_is_int.g Dlaw_is_int.kp Dlaw_is_int.b .nil pass0 (pa_cons (pe_ix ix_tup (pv 0) pe_int (fun _ _ => rfl)) pa_nil))))))))
 (pss_one (ps_ret pe_bl))
 pss_nil)
 (pss_one (ps_ret (pe_and (pe_cmpR op_gt (pe_ix ix_tup (pv 0) pe_int (fun _ _ => rfl)) pe_int (nomark _)) (pe_one (pe_cmpR (op_eqD hu) (pe_call Dlaw_low.G (hr.mono (by first | decide | omega)) rfl Dlaw_low.g Dlaw_low.kp Dlaw_low.b .nil pass0 (pa_cons (pe_ix ix_tup (pv 0) pe_int (fun _ _ => rfl)) (pa_cons (pe_ix ix_tup (pv 0) pe_int (fun _ _ => rfl)) pa_nil))) (pv 0) (nomark _))))))), ?_⟩
    refine ⟨_, rfl, W, v, d, 2, rfl, hd, _, rfl, ?_⟩
    cases hd with
    | tup na ea el =>
      rename_i a xs ds
      refine ite2 (fun hn => ?_) (fun hn => ?_)
      · have hl : ds.length ≠ 2 := fun z => by
          rw [show isLen 2 (.tuple ds) = true from decide_eq_true z] at hn
          cases hn
        have e : isFr (.tuple ds) = false := by
          unfold isFr
          split
          · rename_i z
            cases z
            simp at hl
          · rfl
        rw [e] at q
        exact q H (.refl H)
      · have hl : xs.length = 2 := by
          have := el.length
          have : ds.length = 2 := Classical.byContradiction fun z => by
            rw [show isLen 2 (.tuple ds) = false from decide_eq_false z] at hn
            exact hn rfl
          omega
        match xs, ds, el, hl with
        | [x, y], [d1, d2], .cons h1 (.cons h2 .nil), _ =>
          refine ⟨_, rfl, a, _, 0, x, rfl, rfl, .of ea, rfl, W, x, d1, rfl, h1, _, rfl, ?_⟩
          cases h1 with
          | int i =>
            refine ifF (fun z => nomatch z) ⟨_, rfl, a, _, 1, y, rfl, rfl, .of ea, rfl, W, y, d2, rfl, h2, _, rfl, ?_⟩
            cases h2 with
            | int j =>
              refine ifF (fun z => nomatch z) ⟨_, rfl, a, _, 1, _, rfl, rfl, .of ea, rfl, _, _, rfl, rfl, _, rfl, ite2 (fun hj => ?_) (fun hj => ?_)⟩
              · have j0 : 0 < j := of_decide_eq_true hj
                have hb2 : i.natAbs < 2 ^ n ∧ j.natAbs < 2 ^ n := by
                  have := hb
                  simp only [Bd, BdAll, and_true] at this
                  exact this
                refine ⟨_, rfl, a, _, 0, _, rfl, rfl, .of ea, rfl, _, rfl, a, _, 1, _, rfl, rfl, .of ea, rfl, i, j, n, rfl, j0, hb2.2, by omega, fun p hp => ⟨_, rfl, ?_⟩⟩
                have s1 : Same H (upd H p (.tup [.int (Rat.divInt i j).num, .int (Rat.divInt i j).den])) := same_new hp
                have sh : SeqAt.shaped (.tuple [.int i, .int j]) = true := by
                  unfold SeqAt.shaped
                  simp [PyData.canLay0, PyData.canLayAll0, PyData.depth, PyData.depthAll]
                refine ⟨frD (Rat.divInt i j), .tuple [.int i, .int j], fr_dp ⟨p, rfl, .of upd_same⟩, .tup (.of (s1 _ _ ea)) (.cons (.int _) (.cons (.int _) .nil)), fr_shaped _, sh, ?_⟩
                have e : isFr (.tuple [.int i, .int j]) = PyData.eqv (frD (Rat.divInt i j)) (.tuple [.int i, .int j]) := by
                  have e1 : PyData.eqv (frD (Rat.divInt i j)) (.tuple [.int i, .int j]) = (decide ((Rat.divInt i j).num = i) && decide (((Rat.divInt i j).den : Int) = j)) := by
                    simp [frD, PyData.eqv, PyData.eqvAll]
                    try rfl
                  rw [e1]
                  show (decide (0 < j) && decide (Nat.gcd i.natAbs j.natAbs = 1)) = _
                  rw [hj, Bool.true_and, ← Bool.decide_and]
                  refine decide_eq_decide.mpr ⟨fun z => ?_, fun z => ?_⟩
                  · obtain ⟨r, rfl, rfl⟩ := (Bq.low_iff j0).mp z
                    rw [Bq.num_over]
                    exact ⟨rfl, rfl⟩
                  · exact (Bq.low_iff j0).mpr ⟨_, z.1.symm, z.2.symm⟩
                rw [e] at q
                exact q _ s1
              · have e : isFr (.tuple [.int i, .int j]) = false := by
                  show (decide (0 < j) && decide (Nat.gcd i.natAbs j.natAbs = 1)) = _
                  rw [Bool.eq_false_iff.mpr hj, Bool.false_and]
                rw [e] at q
                exact q H (.refl H)
            | _ => exact ifT rfl (q H (.refl H))
          | _ => exact ifT rfl (q H (.refl H))
    | _ => exact ifT rfl (q H (.refl H))
theorem bd_of {n : Nat} {ds : List PyData} (h : BdAll n ds) {i : Nat} {d : PyData} (e : ds[i]? = some d) : Bd n d := bdAll_iff.mp h d (List.mem_of_getElem? e)
end
end Kx
/-! Values of any kind; a value bent. -/
namespace Kx
open PySem PySem.Spec PyProof.Rows L2 Bw
abbrev s_law_odd : Stmt := topS 47
abbrev n_law_odd : List Str := ["well"]
theorem c_law_odd : FnScope n_law_odd ["well"] (defScope s_law_odd) :=
  ⟨rfl, rfl, rfl, by decide +kernel, rfl, by decide +kernel, by decide +kernel⟩

def odds : List PyData := PyData.none :: PyData.bool true :: PyData.bool false :: PyData.int 0 :: PyData.int 1 :: PyData.int 2 :: PyData.int 3 :: PyData.int 6 :: PyData.int 7 :: PyData.int (-1) :: PyData.int (10 ^ 30) :: PyData.str "" :: PyData.str "0" :: PyData.str "within" :: PyData.tuple [] :: PyData.tuple [.int 0] :: PyData.tuple [.int 1] :: PyData.tuple [.int 0, .int 1] :: PyData.tuple [.int 1, .int 0] :: PyData.tuple [.int 1, .int 1] :: PyData.tuple [.int 0, .int 0] :: PyData.tuple [.int 1, .int 2] :: PyData.tuple [.int 2, .int 4] :: PyData.tuple [.int (-1), .int 2] :: PyData.tuple [.int 1, .int (-2)] :: PyData.tuple [.bool true, .int 2] :: PyData.tuple [.int 1, .bool true] :: PyData.tuple [.bool false] :: PyData.tuple [.int 0, .int 2] :: PyData.tuple [.tuple [.int 0, .int 1]] :: PyData.tuple [.tuple [.int 1, .int 1]] :: PyData.tuple [.tuple [.tuple [.int 1, .int 1]]] :: PyData.tuple [.tuple [.tuple [.int 0, .int 1]]] :: PyData.tuple [.tuple []] :: PyData.tuple [.none] :: PyData.tuple [.str "a"] :: PyData.list [] :: PyData.list [.int 0] :: PyData.list [.int 1, .int 2] :: PyData.list [.tuple [.int 0, .int 1]] :: PyData.list [.list [.tuple [.int 1, .int 1]]] :: PyData.dict [] :: PyData.dict [(.int 0, .int 1)] :: PyData.dict [(.str "a", .tuple [.int 1, .int 2])] :: PyData.tuple [.tuple [.tuple [.int 1, .int 1]], .tuple [.int 0]] :: PyData.tuple [.tuple [.tuple [.tuple [.int 1, .int 1]]], .tuple [.int 0]] :: PyData.list [.tuple [.tuple [.tuple [.int 1, .int 1]]], .tuple [.int 0]] :: PyData.tuple [.tuple [.tuple [.int 0, .int 1], .tuple [.int 1, .int 1]], .tuple [.tuple [.int 0, .int 1], .tuple [.int 1, .int 1]]] :: PyData.tuple [.tuple [.tuple [.int 0, .int 1], .tuple [.int 1, .int 1]], .tuple [.tuple [.int 1, .int 1], .tuple [.int 0, .int 1]]] :: PyData.tuple [.tuple [.int 1, .int 2], .tuple [.int 1, .int 2]] :: PyData.tuple [.int 0, .int 1, .int 2] :: PyData.tuple [.int 2, .int 1] :: []
theorem odds_len : odds.length = 52 := rfl
mutual
def bdB (n : Nat) : PyData → Bool
  | .int i => decide (i.natAbs < 2 ^ n)
  | .list xs => bdsB n xs
  | .tuple xs => bdsB n xs
  | _ => true
def bdsB (n : Nat) : List PyData → Bool
  | [] => true
  | d :: ds => bdB n d && bdsB n ds
end
mutual
theorem bd_of_bool {n : Nat} : ∀ d : PyData, bdB n d = true → Bd n d
  | .none, _ => trivial
  | .bool _, _ => trivial
  | .str _, _ => trivial
  | .dict _, _ => trivial
  | .int i, h => by
    have h' : decide (i.natAbs < 2 ^ n) = true := h
    show i.natAbs < 2 ^ n
    exact of_decide_eq_true h'
  | .list xs, h => bds_of_bool xs h
  | .tuple xs, h => bds_of_bool xs h
theorem bds_of_bool {n : Nat} : ∀ ds : List PyData, bdsB n ds = true → BdAll n ds
  | [], _ => trivial
  | d :: ds, h => by
    have h' : (bdB n d && bdsB n ds) = true := h
    rw [Bool.and_eq_true] at h'
    exact ⟨bd_of_bool d h'.1, bds_of_bool ds h'.2⟩
end
theorem odds_bd : BdAll 160 odds := bds_of_bool odds (by decide +kernel)
/-- no long tuple -/
def lnB : PyData → Bool
  | .tuple ds => decide (ds.length ≤ 100)
  | _ => true
theorem odds_ln : ∀ d ∈ odds, lnB d = true := by decide +kernel
theorem ln_tup {W : Addr → Prop} {H : Hp} {zs : List V} {dz : List PyData} (h : DqAll W H zs dz) (l : zs.length ≤ 100) : lnB (.tuple dz) = true := by
  rw [h.length] at l
  exact decide_eq_true l
theorem evd_pow {σ : L2.St} : EvD (tOp (rI CPow fun i j => .int (i ^ j.toNat)) (tC (.int 10)) (tC (.int 30))) σ (.int (10 ^ 30)) := fun H Q q => ⟨_, _, rfl, rfl, ⟨by decide, by decide, by decide⟩, q _ H (.refl H) (.int (10 ^ 30))⟩
theorem evd_zsub {σ : L2.St} {i : Int} : EvD (tOp (rI0 fun i j => .int (i - j)) (tC (.int 0)) (tC (.int i))) σ (.int (-i)) := fun H Q q => ⟨0, i, rfl, rfl, by
  show Q (.int (0 - i)) H
  rw [Int.zero_sub]
  exact q _ H (.refl H) (.int (-i))⟩
/-- a tuple twice -/
theorem evd_twice {σ : L2.St} {K : PySem.W.Frag} {te : TE} {ds : List PyData} (n0 : ds ≠ []) (n9 : ds.length ≤ 1000) (h : EvD te σ (.tuple ds)) : EvD (tOp (rRepT K) te (tC (.int 2))) σ (.tuple (ds ++ ds)) := fun H Q q => by
  refine h H _ fun v H1 s1 e1 => ?_
  cases e1 with
  | tup na ea el =>
    rename_i a xs
    have hl := el.length
    refine ⟨a, 2, xs, rfl, rfl, .of ea, fun z => n0 (by rw [z] at hl; exact List.length_eq_zero_iff.mp hl.symm), by decide, by decide, by omega, fun p np => ?_⟩
    have er : (List.replicate (2 : Int).toNat xs).flatten = xs ++ xs := by
      show [xs, xs].flatten = _
      simp
    rw [er]
    exact q _ _ (s1.trans (same_new np)) (.tup (new_old s1 np) upd_same ((el.app el).keep (Kp.new np)))
section
variable {P : Program} {w : World} {K : PySem.W.Frag} {mg : Str → Option Value} {base : Heap}
def spOdd : Sp := fun vs H Q _ => ∃ (w l : Addr), vs = [.ref w] ∧ WellAt w l H ∧
  ∀ (H' : Hp) (l' : Addr) (v : V) (d : PyData), Kp (At w) H H' → WellAt w l' H' → (l' = l ∨ H l' = none) → Dq (Old H) H' v d → Bd 160 d → lnB d = true → Q v H'
theorem ok_odd {f : Addr} {fd : FuncData} (F : Fun K "_law_odd" "_law_odd" s_law_odd f fd) (M : Mb mg) (Dlaw_pick : Df P w K mg base 2 "_law_pick" ["well", "some"] (spOfL K)) : FnOk P w K mg base CX0 3 f fd ["well"] spOdd := by
  refine F.ok c_law_odd (fun vs H Q E h => ?_) (fun cdv A outer s H vs Q E hr h => ?_)
  · obtain ⟨w, l, rfl, _⟩ := h
    rfl
  · obtain ⟨w, l, rfl, hW, q⟩ := h
    refine ⟨_, (pss_one (ps_ret (pe_call Dlaw_pick.G (hr.mono (by first | decide | omega)) rfl Dlaw_pick.g Dlaw_pick.kp Dlaw_pick.b .nil pass0 (pa_cons (pv 0) (pa_cons (pe_tup (pa_cons pe_non (pa_cons pe_bl (pa_cons pe_bl (pa_cons pe_int (pa_cons pe_int (pa_cons pe_int (pa_cons pe_int (pa_cons pe_int (pa_cons pe_int (pa_cons (pe_op op_sub pe_int pe_int) (pa_cons (pe_op op_pow pe_int pe_int) (pa_cons pe_str (pa_cons pe_str (pa_cons pe_str (pa_cons (pe_tup pa_nil) (pa_cons (pe_tup (pa_cons pe_int pa_nil)) (pa_cons (pe_tup (pa_cons pe_int pa_nil)) (pa_cons (pe_tup (pa_cons pe_int (pa_cons pe_int pa_nil))) (pa_cons (pe_tup (pa_cons pe_int (pa_cons pe_int pa_nil))) (pa_cons (pe_tup (pa_cons pe_int (pa_cons pe_int pa_nil))) (pa_cons (pe_tup (pa_cons pe_int (pa_cons pe_int pa_nil))) (pa_cons (pe_tup (pa_cons pe_int (pa_cons pe_int pa_nil))) (pa_cons (pe_tup (pa_cons pe_int (pa_cons pe_int pa_nil))) (pa_cons (pe_tup (pa_cons (pe_op op_sub pe_int pe_int) (pa_cons pe_int pa_nil))) (pa_cons (pe_tup (pa_cons pe_int (pa_cons (pe_op op_sub pe_int pe_int) pa_nil))) (pa_cons (pe_tup (pa_cons pe_bl (pa_cons pe_int pa_nil))) (pa_cons (pe_tup (pa_cons pe_int (pa_cons pe_bl pa_nil))) (pa_cons (pe_tup (pa_cons pe_bl pa_nil)) (pa_cons (pe_tup (pa_cons pe_int (pa_cons pe_int pa_nil))) (pa_cons (pe_tup (pa_cons (pe_tup (pa_cons pe_int (pa_cons pe_int pa_nil))) pa_nil)) (pa_cons (pe_tup (pa_cons (pe_tup (pa_cons pe_int (pa_cons pe_int pa_nil))) pa_nil)) (pa_cons (pe_tup (pa_cons (pe_tup (pa_cons (pe_tup (pa_cons pe_int (pa_cons pe_int pa_nil))) pa_nil)) pa_nil)) (pa_cons (pe_tup (pa_cons (pe_tup (pa_cons (pe_tup (pa_cons pe_int (pa_cons pe_int pa_nil))) pa_nil)) pa_nil)) (pa_cons (pe_tup (pa_cons (pe_tup pa_nil) pa_nil)) (pa_cons (pe_tup (pa_cons pe_non pa_nil)) (pa_cons (pe_tup (pa_cons pe_str pa_nil)) (pa_cons (pe_lst pa_nil) (pa_cons (pe_lst (pa_cons pe_int pa_nil)) (pa_cons (pe_lst (pa_cons pe_int (pa_cons pe_int pa_nil))) (pa_cons (pe_lst (pa_cons (pe_tup (pa_cons pe_int (pa_cons pe_int pa_nil))) pa_nil)) (pa_cons (pe_lst (pa_cons (pe_lst (pa_cons (pe_tup (pa_cons pe_int (pa_cons pe_int pa_nil))) pa_nil)) pa_nil)) (pa_cons pe_dnewK (pa_cons (pe_disp (pps_cons pe_int pe_int pps_nil) (by rfl) (by rfl) (fun z => by cases z) (by decide)) (pa_cons (pe_disp (pps_cons pe_str (pe_tup (pa_cons pe_int (pa_cons pe_int pa_nil))) pps_nil) (by rfl) (by rfl) (fun z => by cases z) (by decide)) (pa_cons (pe_tup (pa_cons (pe_tup (pa_cons (pe_tup (pa_cons pe_int (pa_cons pe_int pa_nil))) pa_nil)) (pa_cons (pe_tup (pa_cons pe_int pa_nil)) pa_nil))) (pa_cons (pe_tup (pa_cons (pe_tup (pa_cons (pe_tup (pa_cons (pe_tup (pa_cons pe_int (pa_cons pe_int pa_nil))) pa_nil)) pa_nil)) (pa_cons (pe_tup (pa_cons pe_int pa_nil)) pa_nil))) (pa_cons (pe_lst (pa_cons (pe_tup (pa_cons (pe_tup (pa_cons (pe_tup (pa_cons pe_int (pa_cons pe_int pa_nil))) pa_nil)) pa_nil)) (pa_cons (pe_tup (pa_cons pe_int pa_nil)) pa_nil))) (pa_cons (pe_op op_repT (pe_tup (pa_cons (pe_tup (pa_cons (pe_tup (pa_cons pe_int (pa_cons pe_int pa_nil))) (pa_cons (pe_tup (pa_cons pe_int (pa_cons pe_int pa_nil))) pa_nil))) pa_nil)) pe_int) (pa_cons (pe_tup (pa_cons (pe_tup (pa_cons (pe_tup (pa_cons pe_int (pa_cons pe_int pa_nil))) (pa_cons (pe_tup (pa_cons pe_int (pa_cons pe_int pa_nil))) pa_nil))) (pa_cons (pe_tup (pa_cons (pe_tup (pa_cons pe_int (pa_cons pe_int pa_nil))) (pa_cons (pe_tup (pa_cons pe_int (pa_cons pe_int pa_nil))) pa_nil))) pa_nil))) (pa_cons (pe_tup (pa_cons (pe_tup (pa_cons pe_int (pa_cons pe_int pa_nil))) (pa_cons (pe_tup (pa_cons pe_int (pa_cons pe_int pa_nil))) pa_nil))) (pa_cons (pe_tup (pa_cons pe_int (pa_cons pe_int (pa_cons pe_int pa_nil)))) (pa_cons (pe_tup (pa_cons pe_int (pa_cons pe_int pa_nil))) pa_nil))))))))))))))))))))))))))))))))))))))))))))))))))))) pa_nil))))), ?_⟩
    refine ⟨_, rfl, ?_⟩
    refine (evd_tup (ds := odds) ?_ (by decide)) H _ fun v H2 s2 e2 => ?_
    · unfold odds
      repeat (first | exact evds_nil | refine evds_cons ?_ ?_ | exact evd_non | exact evd_bl | exact evd_int | exact evd_str | exact evd_neg | exact evd_pow | exact evd_zsub | refine evd_twice (ds := [PyData.tuple [PyData.tuple [.int 0, .int 1], PyData.tuple [.int 1, .int 1]]]) (fun z => nomatch z) (by decide) ?_ | exact evd_dnew | refine evd_tup ?_ (by decide) | refine evd_lst ?_ (by decide) | refine evd_dict1 (k := .inl 0) ?_ | refine evd_dict1 (k := .inr "a") ?_)
    · cases e2 with
      | tup na ea el =>
        rename_i a xs
        have hll : xs.length = 52 := el.length
        have W2 : WellAt w l H2 := by
          obtain ⟨st, x, ns, e1, e2, e3, e4⟩ := hW
          exact ⟨st, x, ns, s2 _ _ e1, e2, s2 _ _ e3, e4⟩
        have hwo : Old H w := by
          obtain ⟨_, _, _, e, _⟩ := hW
          show H w ≠ none
          rw [e]
          exact fun z => nomatch z
        have naw : a ≠ w := fun z => na (by rw [z]; exact hwo)
        refine ⟨w, l, a, xs, rfl, W2, naw, .inr (.of ea), by omega, by omega, fun H3 i y l3 hy k3 W3 hl3 => ?_⟩
        obtain ⟨d, hd, dq⟩ := el.at hy
        refine q H3 l3 y d ((Kp.same s2).trans k3) W3 ?_ (dq.keep (k3.mono fun b z => ?_)) (bd_of odds_bd hd) (odds_ln d (List.mem_of_getElem? hd))
        · rcases hl3 with h | h
          · exact .inl h
          · exact .inr (s2.free h)
        · rw [show b = w from z]
          exact hwo
/-! ### tuples cut and joined -/
theorem sl_by {a : Addr} {xs : List V} {lo hi : Option Int} {H : Hp} {Q : VK} (e : H a = some (.tup xs)) (q : ∀ p H', Same H H' → H' p = some (.tup (cutV xs lo hi)) → (p = a ∨ H p = none) → Q (.ref p) H') : rSlA K (.ref a) lo hi H Q := by
  refine ⟨a, xs, rfl, .of e, fun hw => q a H (.refl H) ?_ (.inl rfl), fun _ p np => q p _ (same_new np) upd_same (.inr np)⟩
  rw [e]
  unfold cutV
  rw [hw.1, hw.2, List.drop_zero, Nat.sub_zero, List.take_length]
theorem cat_by {a b : Addr} {xs ys : List V} {H : Hp} {Q : VK} (e : H a = some (.tup xs)) (f : H b = some (.tup ys)) (hl : xs.length + ys.length ≤ 1000) (q : ∀ p H', Same H H' → H' p = some (.tup (xs ++ ys)) → (p = a ∨ p = b ∨ H p = none) → Q (.ref p) H') : rCatA K (.ref a) (.ref b) H Q := by
  refine ⟨a, b, xs, ys, rfl, rfl, .of e, .of f, sz63 hl, fun z => q b H (.refl H) (by rw [f, z]; rfl) (.inr (.inl rfl)), fun _ z => q a H (.refl H) (by rw [e, z, List.append_nil]) (.inl rfl), fun _ _ p np => q p _ (same_new np) upd_same (.inr (.inr np))⟩
theorem cut_to {xs : List V} {n : Nat} (h : n ≤ xs.length) : cutV xs none (some (n : Int)) = xs.take n := by
  unfold cutV
  rw [HT.sIx_none, HT.sIx_nat, List.drop_zero, Nat.sub_zero, Nat.min_eq_left h]
theorem cut_from {xs : List V} {n : Nat} (h : n ≤ xs.length) : cutV xs (some (n : Int)) none = xs.drop n := by
  unfold cutV
  rw [HT.sIx_none, HT.sIx_nat, Nat.min_eq_left h]
  exact List.take_of_length_le (by rw [List.length_drop]; exact Nat.le_refl _)
theorem cut_mid {xs : List V} {m n : Nat} (h : n ≤ xs.length) (hm : m ≤ n) : cutV xs (some (m : Int)) (some (n : Int)) = (xs.drop m).take (n - m) := by
  unfold cutV
  rw [HT.sIx_nat, HT.sIx_nat, Nat.min_eq_left h, Nat.min_eq_left (Nat.le_trans hm h)]
theorem dqAll_take {W : Addr → Prop} {H : Hp} : ∀ {xs : List V} {ds : List PyData} (n : Nat), DqAll W H xs ds → DqAll W H (xs.take n) (ds.take n)
  | _, _, 0, _ => by simp; exact .nil
  | _, _, n + 1, .nil => .nil
  | _, _, n + 1, .cons h t => .cons h (dqAll_take n t)
theorem dqAll_drop {W : Addr → Prop} {H : Hp} : ∀ {xs : List V} {ds : List PyData} (n : Nat), DqAll W H xs ds → DqAll W H (xs.drop n) (ds.drop n)
  | _, _, 0, h => h
  | _, _, n + 1, .nil => .nil
  | _, _, n + 1, .cons h t => dqAll_drop n t
theorem dqAll_rev {W : Addr → Prop} {H : Hp} : ∀ {xs : List V} {ds : List PyData}, DqAll W H xs ds → DqAll W H xs.reverse ds.reverse
  | _, _, .nil => .nil
  | _, _, .cons h t => by
    rw [List.reverse_cons, List.reverse_cons]
    exact (dqAll_rev t).app (.cons h .nil)
end
end Kx
/-! Part 17. Determinants of squares of whole numbers, by their first columns; leaving out the first row and column (Chio). Plain mathematics. -/
namespace Bw
/-- f 0 + .. + f (n - 1) -/
def sZ : Nat → (Nat → Int) → Int
  | 0, _ => 0
  | n + 1, f => sZ n f + f n
theorem sZ_congr {f g : Nat → Int} : ∀ {n : Nat}, (∀ i, i < n → f i = g i) → sZ n f = sZ n g
  | 0, _ => rfl
  | n + 1, h => by
    rw [sZ, sZ, sZ_congr fun i hi => h i (by omega), h n (by omega)]
theorem sZ_zero {f : Nat → Int} : ∀ {n : Nat}, (∀ i, i < n → f i = 0) → sZ n f = 0
  | 0, _ => rfl
  | n + 1, h => by
    rw [sZ, sZ_zero fun i hi => h i (by omega), h n (by omega)]
    rfl
theorem sZ_lin (f g : Nat → Int) (c : Int) : ∀ n, sZ n (fun i => f i + c * g i) = sZ n f + c * sZ n g
  | 0 => by simp [sZ]
  | n + 1 => by
    simp only [sZ]
    rw [sZ_lin f g c n, Int.mul_add]
    omega
theorem sZ_neg (f : Nat → Int) : ∀ n, sZ n (fun i => - f i) = - sZ n f
  | 0 => by simp [sZ]
  | n + 1 => by
    simp only [sZ]
    rw [sZ_neg f n]
    omega
/-- two places alone, which are each other's opposites -/
theorem sZ_two {f : Nat → Int} {a b : Nat} (hab : a < b) (h : f a + f b = 0) : ∀ {n : Nat}, b < n → (∀ i, i < n → i ≠ a → i ≠ b → f i = 0) → sZ n f = 0 := fun {n} => by
  have one : ∀ {n : Nat}, a < n → n ≤ b → (∀ i, i < n → i ≠ a → f i = 0) → sZ n f = f a := fun {n} => by
    induction n with
    | zero => intro h; omega
    | succ n ih =>
      intro h1 h2 h3
      rw [sZ]
      by_cases c : a = n
      · rw [sZ_zero fun i hi => h3 i (by omega) (by omega), c]
        omega
      · rw [ih (by omega) (by omega) fun i hi => h3 i (by omega), h3 n (by omega) (by omega)]
        omega
  induction n with
  | zero => intro h; omega
  | succ n ih =>
    intro h1 h2
    rw [sZ]
    by_cases c : b = n
    · rw [one (n := n) (by omega) (by omega) fun i hi ne => h2 i (by omega) ne (by omega), ← c]
      exact h
    · rw [ih (by omega) fun i hi => h2 i (by omega), h2 n (by omega) (by omega) (by omega)]
      rfl
/-- the rows but row i, the columns but the first one -/
def mn (A : Nat → Nat → Int) (i : Nat) : Nat → Nat → Int := fun r c => A (if r < i then r else r + 1) (c + 1)
def sg (i : Nat) : Int := if i % 2 = 0 then 1 else -1
theorem sg_succ (i : Nat) : sg (i + 1) = - sg i := by
  unfold sg
  by_cases h : i % 2 = 0
  · rw [if_pos h, if_neg (by omega)]
  · rw [if_neg h, if_pos (by omega)]
    rfl
def det : Nat → (Nat → Nat → Int) → Int
  | 0, _ => 1
  | n + 1, A => sZ (n + 1) fun i => sg i * A i 0 * det n (mn A i)
theorem det_congr : ∀ {n : Nat} {A B : Nat → Nat → Int}, (∀ i j, i < n → j < n → A i j = B i j) → det n A = det n B
  | 0, _, _, _ => rfl
  | n + 1, A, B, h => by
    rw [det, det]
    refine sZ_congr fun i hi => ?_
    rw [h i 0 hi (by omega), det_congr (A := mn A i) (B := mn B i) fun r c hr hc => ?_]
    unfold mn
    split
    · exact h _ _ (by omega) (by omega)
    · exact h _ _ (by omega) (by omega)
/-- row r put in the place of row a -/
def rw1 (A : Nat → Nat → Int) (a : Nat) (u : Nat → Int) : Nat → Nat → Int := fun i j => if i = a then u j else A i j
theorem mn_rw_same (A : Nat → Nat → Int) (a : Nat) (u : Nat → Int) : mn (rw1 A a u) a = mn A a := by
  funext r c
  unfold mn rw1
  by_cases h : r < a
  · rw [if_pos h, if_neg (by omega)]
  · rw [if_neg h, if_neg (by omega)]
theorem mn_rw_lt (A : Nat → Nat → Int) {a i : Nat} (u : Nat → Int) (h : a < i) : mn (rw1 A a u) i = rw1 (mn A i) a fun c => u (c + 1) := by
  funext r c
  unfold mn rw1
  dsimp only
  by_cases h1 : r < i
  · rw [if_pos h1]
  · rw [if_neg h1, if_neg (by omega), if_neg (by omega)]
theorem mn_rw_gt (A : Nat → Nat → Int) {a i : Nat} (u : Nat → Int) (h : i < a) : mn (rw1 A a u) i = rw1 (mn A i) (a - 1) fun c => u (c + 1) := by
  funext r c
  unfold mn rw1
  dsimp only
  by_cases h1 : r < i
  · rw [if_pos h1, if_neg (by omega), if_neg (by omega)]
  · rw [if_neg h1]
    by_cases h2 : r = a - 1
    · rw [if_pos (by omega), if_pos h2]
    · rw [if_neg (by omega), if_neg h2]
/-- a row that is a sum -/
theorem det_lin : ∀ {n : Nat} (A : Nat → Nat → Int) (a : Nat) (u v : Nat → Int) (c : Int), a < n → det n (rw1 A a fun j => u j + c * v j) = det n (rw1 A a u) + c * det n (rw1 A a v)
  | 0, _, _, _, _, _, h => by omega
  | n + 1, A, a, u, v, c, h => by
    rw [det, det, det, ← sZ_lin]
    refine sZ_congr fun i hi => ?_
    by_cases h1 : i = a
    · subst h1
      rw [mn_rw_same, mn_rw_same, mn_rw_same]
      have e : ∀ w : Nat → Int, rw1 A i w i 0 = w 0 := fun w => by
        unfold rw1
        rw [if_pos rfl]
      rw [e, e, e]
      generalize det n (mn A i) = d
      generalize sg i = s
      rw [Int.mul_add, Int.add_mul]
      have : s * (c * v 0) * d = c * (s * v 0 * d) := by
        rw [Int.mul_left_comm s c, Int.mul_assoc c]
      rw [this]
    · have e : ∀ w : Nat → Int, rw1 A a w i 0 = A i 0 := fun w => by
        unfold rw1
        rw [if_neg h1]
      rw [e, e, e]
      by_cases h2 : a < i
      · rw [mn_rw_lt A _ h2, mn_rw_lt A _ h2, mn_rw_lt A _ h2, det_lin (mn A i) a (fun j => u (j + 1)) (fun j => v (j + 1)) c (by omega)]
        generalize sg i * A i 0 = s
        rw [Int.mul_add, Int.mul_left_comm]
      · rw [mn_rw_gt A _ (by omega), mn_rw_gt A _ (by omega), mn_rw_gt A _ (by omega), det_lin (mn A i) (a - 1) (fun j => u (j + 1)) (fun j => v (j + 1)) c (by omega)]
        generalize sg i * A i 0 = s
        rw [Int.mul_add, Int.mul_left_comm]
/-- two rows beside one another alike -/
theorem det_adj : ∀ {n : Nat} {A : Nat → Nat → Int} {a : Nat}, a + 1 < n → (∀ j, A a j = A (a + 1) j) → det n A = 0
  | 0, _, _, h, _ => by omega
  | n + 1, A, a, h, e => by
    rw [det]
    refine sZ_two (a := a) (b := a + 1) (by omega) ?_ h fun i hi n1 n2 => ?_
    · have em : mn A a = mn A (a + 1) := by
        funext r c
        unfold mn
        by_cases h1 : r < a
        · rw [if_pos h1, if_pos (by omega)]
        · rw [if_neg h1]
          by_cases h2 : r = a
          · subst h2
            rw [if_pos (by omega)]
            exact (e _).symm
          · rw [if_neg (by omega)]
      rw [em, e 0, sg_succ]
      generalize A (a + 1) 0 = x
      generalize det n (mn A (a + 1)) = d
      rw [Int.neg_mul, Int.neg_mul]
      omega
    · have z : det n (mn A i) = 0 := by
        by_cases h1 : a + 1 < i
        · refine det_adj (a := a) (by omega) fun j => ?_
          unfold mn
          rw [if_pos (by omega), if_pos h1]
          exact e _
        · refine det_adj (a := a - 1) (by omega) fun j => ?_
          unfold mn
          rw [if_neg (by omega), if_neg (by omega)]
          have e1 : a - 1 + 1 = a := by omega
          rw [e1]
          exact e _
      rw [z, Int.mul_zero]
/-- two rows beside one another exchanged -/
def sw1 (A : Nat → Nat → Int) (a : Nat) : Nat → Nat → Int := fun i j => if i = a then A (a + 1) j else if i = a + 1 then A a j else A i j
theorem det_swap {n : Nat} {A : Nat → Nat → Int} {a : Nat} (h : a + 1 < n) : det n (sw1 A a) = - det n A := by
  -- rows u, v at a, a + 1
  let R : (Nat → Int) → (Nat → Int) → Nat → Nat → Int := fun u v => rw1 (rw1 A a u) (a + 1) v
  have same : ∀ u, det n (R u u) = 0 := fun u => det_adj (a := a) h fun j => by
    show rw1 (rw1 A a u) (a + 1) u a j = rw1 (rw1 A a u) (a + 1) u (a + 1) j
    unfold rw1
    rw [if_neg (by omega), if_pos rfl, if_pos rfl]
  have lin2 : ∀ u v w, det n (R u fun j => v j + 1 * w j) = det n (R u v) + 1 * det n (R u w) := fun u v w => det_lin (rw1 A a u) (a + 1) v w 1 (by omega)
  have comm : ∀ u v, R u v = rw1 (rw1 A (a + 1) v) a u := fun u v => by
    funext i j
    show rw1 (rw1 A a u) (a + 1) v i j = _
    unfold rw1
    by_cases h1 : i = a
    · rw [if_neg (by omega), if_pos h1, if_pos h1]
    · rw [if_neg h1, if_neg h1]
  have lin1 : ∀ u v w, det n (R (fun j => u j + 1 * v j) w) = det n (R u w) + 1 * det n (R v w) := fun u v w => by
    rw [comm, comm, comm]
    exact det_lin (rw1 A (a + 1) w) a u v 1 (by omega)
  have e1 : sw1 A a = R (A (a + 1)) (A a) := by
    funext i j
    show _ = rw1 (rw1 A a (A (a + 1))) (a + 1) (A a) i j
    unfold rw1 sw1
    by_cases h1 : i = a
    · rw [if_pos h1, if_neg (by omega), if_pos h1]
    · rw [if_neg h1, if_neg h1]
  have e2 : A = R (A a) (A (a + 1)) := by
    funext i j
    show _ = rw1 (rw1 A a (A a)) (a + 1) (A (a + 1)) i j
    unfold rw1
    by_cases h2 : i = a + 1
    · rw [if_pos h2, h2]
    · rw [if_neg h2]
      by_cases h1 : i = a
      · rw [if_pos h1, h1]
      · rw [if_neg h1]
  have all := same fun j => A a j + 1 * A (a + 1) j
  rw [lin1, lin2, lin2, same (A a), same (A (a + 1))] at all
  have e2' := congrArg (det n) e2
  rw [e1]
  omega
/-- any two rows alike -/
theorem det_alike {n : Nat} : ∀ (d : Nat) {A : Nat → Nat → Int} {a : Nat}, a + 1 + d < n → (∀ j, A a j = A (a + 1 + d) j) → det n A = 0
  | 0, A, a, h, e => det_adj h e
  | d + 1, A, a, h, e => by
    have z := det_alike (n := n) d (A := sw1 A (a + 1 + d)) (a := a) (by omega) fun j => by
      unfold sw1
      rw [if_neg (by omega), if_neg (by omega), if_pos rfl]
      exact e j
    have s := det_swap (n := n) (A := A) (a := a + 1 + d) (by omega)
    omega
/-- a times one row less another row times a number: times that -/
theorem det_op {n : Nat} {A : Nat → Nat → Int} {t : Nat} (p c : Int) (h0 : 0 < t) (h : t < n) : det n (rw1 A t fun j => p * A t j - c * A 0 j) = p * det n A := by
  have e1 : (fun j => p * A t j - c * A 0 j) = fun j => (fun j => p * A t j) j + (-c) * (A 0) j := by
    funext j
    show p * A t j - c * A 0 j = p * A t j + (-c) * A 0 j
    rw [Int.neg_mul]
    omega
  have e2 : (fun j => p * A t j) = fun j => (fun _ => (0 : Int)) j + p * (A t) j := by
    funext j
    show p * A t j = 0 + p * A t j
    omega
  have z0 : det n (rw1 A t fun _ => 0) = 0 := by
    have := det_lin A t (fun _ => 0) (fun _ => 0) 1 h
    have e : (fun _ : Nat => (0 : Int) + 1 * 0) = fun _ => 0 := by
      funext j
      rfl
    rw [e] at this
    omega
  have z1 : det n (rw1 A t (A 0)) = 0 := det_alike (n := n) (t - 1) (a := 0) (by omega) fun j => by
    have et : 0 + 1 + (t - 1) = t := by omega
    rw [et]
    unfold rw1
    rw [if_neg (by omega), if_pos rfl]
  have s : rw1 A t (A t) = A := by
    funext i j
    unfold rw1
    by_cases c : i = t
    · rw [if_pos c, c]
    · rw [if_neg c]
  rw [e1, det_lin A t _ _ _ h, z1, e2, det_lin A t _ _ _ h, z0, s]
  omega
/-- the first row and column left out -/
def chio (A : Nat → Nat → Int) : Nat → Nat → Int := fun i j => A 0 0 * A (i + 1) (j + 1) - A (i + 1) 0 * A 0 (j + 1)
theorem det_chio (n : Nat) (A : Nat → Nat → Int) : A 0 0 ^ n * det (n + 1) A = A 0 0 * det n (chio A) := by
  let B : Nat → Nat → Nat → Int := fun t i j => if 0 < i ∧ i ≤ t then A 0 0 * A i j - A i 0 * A 0 j else A i j
  have step : ∀ t, t ≤ n → det (n + 1) (B t) = A 0 0 ^ t * det (n + 1) A := fun t => by
    induction t with
    | zero =>
      intro _
      have e : B 0 = A := by
        funext i j
        show (if 0 < i ∧ i ≤ 0 then _ else A i j) = A i j
        rw [if_neg (by omega)]
      rw [e, Int.pow_zero, Int.one_mul]
    | succ t ih =>
      intro h
      have e : B (t + 1) = rw1 (B t) (t + 1) fun j => A 0 0 * B t (t + 1) j - A (t + 1) 0 * B t 0 j := by
        funext i j
        show (if 0 < i ∧ i ≤ t + 1 then A 0 0 * A i j - A i 0 * A 0 j else A i j) = _
        unfold rw1
        have b1 : B t (t + 1) j = A (t + 1) j := if_neg (by omega)
        have b0 : B t 0 j = A 0 j := if_neg (by omega)
        by_cases c : i = t + 1
        · rw [if_pos (by omega), if_pos c]
          show _ = A 0 0 * B t (t + 1) j - A (t + 1) 0 * B t 0 j
          rw [b1, b0, c]
        · rw [if_neg c]
          show _ = (if 0 < i ∧ i ≤ t then A 0 0 * A i j - A i 0 * A 0 j else A i j)
          by_cases c2 : 0 < i ∧ i ≤ t
          · rw [if_pos (by omega), if_pos c2]
          · rw [if_neg (by omega), if_neg c2]
      rw [e, det_op (A := B t) (A 0 0) (A (t + 1) 0) (by omega) (by omega), ih (by omega), Int.pow_succ, Int.mul_comm (A 0 0 ^ t) (A 0 0), Int.mul_assoc]
  rw [← step n (Nat.le_refl n), det]
  have zero : ∀ i, i < n + 1 → i ≠ 0 → B n i 0 = 0 := fun i hi ne => by
    show (if 0 < i ∧ i ≤ n then A 0 0 * A i 0 - A i 0 * A 0 0 else A i 0) = 0
    rw [if_pos (by omega), Int.mul_comm]
    omega
  have b00 : B n 0 0 = A 0 0 := if_neg (by omega)
  have m0 : det n (mn (B n) 0) = det n (chio A) := det_congr fun i j hi hj => by
    have e1 : mn (B n) 0 i j = B n (i + 1) (j + 1) := by
      unfold mn
      rw [if_neg (by omega)]
    rw [e1]
    show (if 0 < i + 1 ∧ i + 1 ≤ n then A 0 0 * A (i + 1) (j + 1) - A (i + 1) 0 * A 0 (j + 1) else A (i + 1) (j + 1)) = _
    rw [if_pos (by omega)]
    rfl
  have one : ∀ {m : Nat} {f : Nat → Int}, (∀ i, i < m + 1 → i ≠ 0 → f i = 0) → sZ (m + 1) f = f 0 := fun {m f} => by
    induction m with
    | zero =>
      intro _
      simp [sZ]
    | succ m ih =>
      intro h
      rw [sZ, ih fun i hi => h i (by omega), h (m + 1) (by omega) (by omega)]
      omega
  rw [one fun i hi ne => by rw [zero i hi ne, Int.mul_zero, Int.zero_mul], b00, m0]
  show 1 * A 0 0 * _ = _
  rw [Int.one_mul]
end Bw
/-! Part 18. Bareiss: what is divided is divided without rest; what is left is the determinant. Plain mathematics. -/
namespace Bw
theorem det_scale (c : Int) : ∀ (n : Nat) (A : Nat → Nat → Int), det n (fun i j => c * A i j) = c ^ n * det n A
  | 0, _ => by simp [det]
  | n + 1, A => by
    rw [det, det, Int.pow_succ]
    have e : ∀ i, mn (fun i j => c * A i j) i = fun r d => c * mn A i r d := fun i => rfl
    have h : sZ (n + 1) (fun i => sg i * (c * A i 0) * det n (mn (fun i j => c * A i j) i)) = sZ (n + 1) (fun i => 0 + (c ^ n * c) * (sg i * A i 0 * det n (mn A i))) := sZ_congr fun i _ => by
      rw [e, det_scale c n (mn A i)]
      generalize det n (mn A i) = d
      generalize sg i = s
      generalize A i 0 = a
      generalize c ^ n = x
      grind
    rw [h, sZ_lin]
    have z : sZ (n + 1) (fun _ => (0 : Int)) = 0 := sZ_zero fun _ _ => rfl
    rw [z]
    omega
/-- what Bareiss' rule leaves after k rows, the first k rows and columns left out; by what it divides next -/
def bst (A : Nat → Nat → Int) : Nat → (Nat → Nat → Int) × Int
  | 0 => (A, 1)
  | k + 1 => (fun i j => chio (bst A k).1 i j / (bst A k).2, (bst A k).1 0 0)
def bb (A : Nat → Nat → Int) (k : Nat) : Nat → Nat → Int := (bst A k).1
def bq (A : Nat → Nat → Int) (k : Nat) : Int := (bst A k).2
theorem bq_succ (A : Nat → Nat → Int) (k : Nat) : bq A (k + 1) = bb A k 0 0 := rfl
theorem bb_succ (A : Nat → Nat → Int) (k i j : Nat) : bb A (k + 1) i j = chio (bb A k) i j / bq A k := rfl
/-- rows and columns chosen, the first k ones as they are -/
theorem bb_sel {A : Nat → Nat → Int} {r s : Nat → Nat} : ∀ {k : Nat}, (∀ i, i < k → r i = i ∧ s i = i) → (∀ i, k ≤ i → k ≤ r i ∧ k ≤ s i) →
    bq (fun i j => A (r i) (s j)) k = bq A k ∧ ∀ i j, bb (fun i j => A (r i) (s j)) k i j = bb A k (r (k + i) - k) (s (k + j) - k)
  | 0, _, _ => ⟨rfl, fun i j => by
    show A (r i) (s j) = A (r (0 + i) - 0) (s (0 + j) - 0)
    rw [Nat.zero_add, Nat.zero_add, Nat.sub_zero, Nat.sub_zero]⟩
  | k + 1, h1, h2 => by
    have g : ∀ i, k ≤ i → k ≤ r i ∧ k ≤ s i := fun i hi => by
      by_cases c : i = k
      · have := h1 k (by omega)
        rw [c]
        omega
      · have := h2 i (by omega)
        omega
    obtain ⟨ih1, ih2⟩ := bb_sel (A := A) (k := k) (fun i hi => h1 i (by omega)) g
    have rk := h1 k (by omega)
    have e0 : r (k + 0) - k = 0 ∧ s (k + 0) - k = 0 := by
      rw [Nat.add_zero]
      omega
    constructor
    · rw [bq_succ, bq_succ, ih2, e0.1, e0.2]
    · intro i j
      rw [bb_succ, bb_succ, ih1]
      congr 1
      unfold chio
      rw [ih2, ih2, ih2, ih2, e0.1, e0.2]
      have ei : k + (i + 1) = k + 1 + i := by omega
      have ej : k + (j + 1) = k + 1 + j := by omega
      rw [ei, ej]
      have hi := (h2 (k + 1 + i) (by omega)).1
      have hj := (h2 (k + 1 + j) (by omega)).2
      have f1 : r (k + 1 + i) - k = r (k + 1 + i) - (k + 1) + 1 := by omega
      have f2 : s (k + 1 + j) - k = s (k + 1 + j) - (k + 1) + 1 := by omega
      rw [f1, f2]
/-- one row and one column put in the place of the one at k -/
def pick1 (k i : Nat) : Nat → Nat := fun r => if r = k then k + i else r
theorem det_two (M : Nat → Nat → Int) : det 2 M = M 0 0 * M 1 1 - M 1 0 * M 0 1 := by
  simp [det, sZ, sg, mn]
  rw [Int.neg_mul]
  omega
theorem det_one (M : Nat → Nat → Int) : det 1 M = M 0 0 := by
  simp [det, sZ, sg]
/-- Bareiss: what is divided is divided without rest -/
theorem bareiss : ∀ (k : Nat) (A : Nat → Nat → Int), (∀ t, t < k → bb A t 0 0 ≠ 0) →
    (∀ m, det (m + 1) (bb A k) = bq A k ^ m * det (k + m + 1) A) ∧ ∀ i j, chio (bb A k) i j = bq A k * det (k + 2) fun a b => A (pick1 (k + 1) i a) (pick1 (k + 1) j b)
  | 0, A, _ => by
    refine ⟨fun m => ?_, fun i j => ?_⟩
    · show det (m + 1) A = 1 ^ m * det (0 + m + 1) A
      rw [Int.one_pow, Int.one_mul, Nat.zero_add]
    · show chio A i j = 1 * det 2 _
      rw [det_two, Int.one_mul]
      show A 0 0 * A (i + 1) (j + 1) - A (i + 1) 0 * A 0 (j + 1) = A 0 0 * A (1 + i) (1 + j) - A (1 + i) 0 * A 0 (1 + j)
      rw [Nat.add_comm 1 i, Nat.add_comm 1 j]
  | k + 1, A, h => by
    have first : ∀ A : Nat → Nat → Int, (∀ t, t < k + 1 → bb A t 0 0 ≠ 0) → ∀ m, det (m + 1) (bb A (k + 1)) = bq A (k + 1) ^ m * det (k + 1 + m + 1) A := fun A h m => by
      obtain ⟨ih1, ih2⟩ := bareiss k A fun t ht => h t (by omega)
      have q0 : bq A k ≠ 0 := by
        cases k with
        | zero => exact fun z => nomatch (show (1 : Int) = 0 from z)
        | succ k => exact h k (by omega)
      have p0 : bb A k 0 0 ≠ 0 := h k (by omega)
      have ex : ∀ i j, bb A (k + 1) i j = det (k + 2) fun a b => A (pick1 (k + 1) i a) (pick1 (k + 1) j b) := fun i j => by
        rw [bb_succ, ih2, Int.mul_ediv_cancel_left _ q0]
      have ch : chio (bb A k) = fun i j => bq A k * bb A (k + 1) i j := by
        funext i j
        rw [ih2, ex]
      have c1 := det_chio (m + 1) (bb A k)
      rw [ch, det_scale, ih1 (m + 1), Int.pow_succ, Int.mul_assoc, Int.mul_comm (bb A k 0 0 ^ m), Int.mul_assoc] at c1
      have c2 := Int.eq_of_mul_eq_mul_left p0 (a := bb A k 0 0) (b := bq A k ^ (m + 1) * det (k + (m + 1) + 1) A * bb A k 0 0 ^ m) (c := bq A k ^ (m + 1) * det (m + 1) (bb A (k + 1))) (by
        rw [← c1])
      rw [Int.mul_assoc] at c2
      have c3 := Int.eq_of_mul_eq_mul_left (a := bq A k ^ (m + 1)) (Int.pow_ne_zero q0) c2
      rw [← c3, bq_succ, Int.mul_comm, show k + (m + 1) + 1 = k + 1 + m + 1 by omega]
    refine ⟨first A h, fun i j => ?_⟩
    -- the next step, of rows and columns chosen
    have sel : ∀ t, t ≤ k + 1 → bq (fun a b => A (pick1 (k + 2) i a) (pick1 (k + 2) j b)) t = bq A t ∧ ∀ x y, bb (fun a b => A (pick1 (k + 2) i a) (pick1 (k + 2) j b)) t x y = bb A t (pick1 (k + 2) i (t + x) - t) (pick1 (k + 2) j (t + y) - t) := fun t ht => by
      refine bb_sel (A := A) (r := pick1 (k + 2) i) (s := pick1 (k + 2) j) (fun x hx => ?_) fun x hx => ?_
      · unfold pick1
        rw [if_neg (by omega), if_neg (by omega)]
        exact ⟨rfl, rfl⟩
      · unfold pick1
        constructor <;> split <;> omega
    have f2 := first (fun a b => A (pick1 (k + 2) i a) (pick1 (k + 2) j b)) (fun t ht => by
      rw [(sel t (by omega)).2]
      have e : pick1 (k + 2) i (t + 0) - t = 0 ∧ pick1 (k + 2) j (t + 0) - t = 0 := by
        unfold pick1
        rw [if_neg (by omega), if_neg (by omega)]
        omega
      rw [e.1, e.2]
      exact h t ht) 1
    obtain ⟨s1, s2⟩ := sel (k + 1) (Nat.le_refl _)
    rw [s1, Int.pow_succ, Int.pow_zero, Int.one_mul, det_two, s2, s2, s2, s2] at f2
    have e0 : ∀ i, pick1 (k + 2) i (k + 1 + 0) - (k + 1) = 0 := fun i => by
      unfold pick1
      rw [if_neg (by omega)]
      omega
    have e1 : ∀ i, pick1 (k + 2) i (k + 1 + 1) - (k + 1) = i + 1 := fun i => by
      unfold pick1
      rw [if_pos (by omega)]
      omega
    rw [e0, e0, e1, e1] at f2
    exact f2
end Bw
/-! Part 19. Determinants: rows and columns exchanged; columns as sums. Plain mathematics. -/
namespace Bw
def tr (A : Nat → Nat → Int) : Nat → Nat → Int := fun i j => A j i
theorem chio_tr (A : Nat → Nat → Int) : chio (tr A) = tr (chio A) := by
  funext i j
  show A 0 0 * A (j + 1) (i + 1) - A 0 (i + 1) * A (j + 1) 0 = A 0 0 * A (j + 1) (i + 1) - A (j + 1) 0 * A 0 (i + 1)
  rw [Int.mul_comm (A 0 (i + 1))]
/-- t in the corner -/
def crn (A : Nat → Nat → Int) (t : Int) : Nat → Nat → Int := fun i j => if i = 0 ∧ j = 0 then t else A i j
theorem crn_lin {n : Nat} (A : Nat → Nat → Int) (h : 0 < n) : ∃ d : Int, ∀ t, det n (crn A t) = det n (crn A 0) + t * d := by
  refine ⟨det n (rw1 A 0 fun j => if j = 0 then 1 else 0), fun t => ?_⟩
  have e : ∀ s, crn A s = rw1 A 0 fun j => if j = 0 then s else A 0 j := fun s => by
    funext i j
    unfold crn rw1
    by_cases c : i = 0
    · rw [if_pos c]
      by_cases d : j = 0
      · rw [if_pos ⟨c, d⟩]
        show s = if j = 0 then s else A 0 j
        rw [if_pos d]
      · rw [if_neg (fun z => d z.2), c]
        show A 0 j = if j = 0 then s else A 0 j
        rw [if_neg d]
    · rw [if_neg (fun z => c z.1), if_neg c]
  rw [e t, e 0, ← det_lin A 0 _ _ t h]
  congr 2
  funext j
  by_cases d : j = 0
  · rw [if_pos d, if_pos d, if_pos d]
    omega
  · rw [if_neg d, if_neg d, if_neg d]
    omega
theorem det_tr : ∀ (n : Nat) (A : Nat → Nat → Int), det n (tr A) = det n A
  | 0, _ => rfl
  | n + 1, A => by
    have big : ∀ B : Nat → Nat → Int, B 0 0 ≠ 0 → det (n + 1) (tr B) = det (n + 1) B := fun B h => by
      have c1 := det_chio n B
      have c2 := det_chio n (tr B)
      rw [chio_tr, det_tr n (chio B)] at c2
      have e : tr B 0 0 = B 0 0 := rfl
      rw [e, ← c1] at c2
      exact Int.eq_of_mul_eq_mul_left (Int.pow_ne_zero h) c2
    by_cases h : A 0 0 = 0
    · obtain ⟨d1, h1⟩ := crn_lin (n := n + 1) A (by omega)
      obtain ⟨d2, h2⟩ := crn_lin (n := n + 1) (tr A) (by omega)
      have e0 : crn A 0 = A := by
        funext i j
        unfold crn
        by_cases c : i = 0 ∧ j = 0
        · rw [if_pos c, c.1, c.2, h]
        · rw [if_neg c]
      have et : ∀ t, crn (tr A) t = tr (crn A t) := fun t => by
        funext i j
        unfold crn tr
        dsimp only
        by_cases c : i = 0 ∧ j = 0
        · rw [if_pos c, if_pos ⟨c.2, c.1⟩]
        · rw [if_neg c, if_neg (fun z => c ⟨z.2, z.1⟩)]
      have b1 := big (crn A 1) (by unfold crn; rw [if_pos ⟨rfl, rfl⟩]; decide)
      have b2 := big (crn A 2) (by unfold crn; rw [if_pos ⟨rfl, rfl⟩]; decide)
      rw [← et, h2 1, h1 1] at b1
      rw [← et, h2 2, h1 2] at b2
      rw [et, e0] at b1 b2
      omega
    · exact big A h
/-! ### the columns -/
/-- column c put in the place of column a -/
def cl1 (A : Nat → Nat → Int) (a : Nat) (u : Nat → Int) : Nat → Nat → Int := fun i j => if j = a then u i else A i j
theorem cl1_tr (A : Nat → Nat → Int) (a : Nat) (u : Nat → Int) : cl1 A a u = tr (rw1 (tr A) a u) := by
  funext i j
  rfl
theorem det_clin {n : Nat} (A : Nat → Nat → Int) (a : Nat) (u v : Nat → Int) (c : Int) (h : a < n) : det n (cl1 A a fun j => u j + c * v j) = det n (cl1 A a u) + c * det n (cl1 A a v) := by
  rw [cl1_tr, cl1_tr, cl1_tr, det_tr, det_tr, det_tr]
  exact det_lin (tr A) a u v c h
theorem det_calike {n : Nat} {A : Nat → Nat → Int} {a b : Nat} (hab : a < b) (h : b < n) (e : ∀ i, A i a = A i b) : det n A = 0 := by
  rw [← det_tr]
  refine det_alike (n := n) (b - a - 1) (A := tr A) (a := a) (by omega) fun j => ?_
  have eb : a + 1 + (b - a - 1) = b := by omega
  rw [eb]
  exact e j
/-- a column that is 0 -/
theorem det_czero {n : Nat} (A : Nat → Nat → Int) (a : Nat) (h : a < n) : det n (cl1 A a fun _ => 0) = 0 := by
  have := det_clin A a (fun _ => 0) (fun _ => 0) 1 h
  have e : (fun _ : Nat => (0 : Int) + 1 * 0) = fun _ => 0 := by
    funext j
    rfl
  rw [e] at this
  omega
/-- a column that is a sum of columns -/
theorem det_csum {n : Nat} (A : Nat → Nat → Int) (a : Nat) (h : a < n) (f : Nat → Nat → Int) (c : Nat → Int) : ∀ m, det n (cl1 A a fun i => sZ m fun k => c k * f k i) = sZ m fun k => c k * det n (cl1 A a fun i => f k i)
  | 0 => by
    show det n (cl1 A a fun _ => 0) = 0
    exact det_czero A a h
  | m + 1 => by
    have e : (fun i => sZ (m + 1) fun k => c k * f k i) = fun i => (fun i => sZ m fun k => c k * f k i) i + c m * (fun i => f m i) i := rfl
    rw [e, det_clin A a _ _ _ h, det_csum A a h f c m]
    rfl
end Bw
/-! Part 20. Squares whose rows are together 0: what is left without a row and its column; such squares' determinants are above 0. Plain mathematics. -/
namespace Bw
theorem sZ_one {f : Nat → Int} {a : Nat} : ∀ {n : Nat}, a < n → (∀ i, i < n → i ≠ a → f i = 0) → sZ n f = f a
  | 0, h, _ => by omega
  | n + 1, h, e => by
    rw [sZ]
    by_cases c : a = n
    · rw [sZ_zero fun i hi => e i (by omega) (by omega), c]
      omega
    · rw [sZ_one (by omega) fun i hi => e i (by omega), e n (by omega) (by omega)]
      omega
theorem sZ_add (f g : Nat → Int) (n : Nat) : sZ n (fun i => f i + g i) = sZ n f + sZ n g := by
  have := sZ_lin f g 1 n
  rw [show (fun i => f i + 1 * g i) = fun i => f i + g i from funext fun i => by omega] at this
  omega
theorem sZ_mul (c : Int) (f : Nat → Int) : ∀ n, sZ n (fun i => c * f i) = c * sZ n f
  | 0 => by simp [sZ]
  | n + 1 => by rw [sZ, sZ, sZ_mul c f n, Int.mul_add]
theorem sZ_pick2 {f : Nat → Int} {a b n : Nat} (ha : a < n) (hb : b < n) (ne : a ≠ b) (e : ∀ i, i < n → i ≠ a → i ≠ b → f i = 0) : sZ n f = f a + f b := by
  have h1 := sZ_one (f := fun i => if i = a then f a else 0) (a := a) ha fun i _ h => if_neg h
  have h2 := sZ_one (f := fun i => if i = b then f b else 0) (a := b) hb fun i _ h => if_neg h
  rw [if_pos rfl] at h1 h2
  rw [← h1, ← h2, ← sZ_add]
  refine sZ_congr fun i hi => ?_
  by_cases c : i = a
  · rw [if_pos c, if_neg (fun z => ne (c.symm.trans z)), c]
    omega
  · rw [if_neg c]
    by_cases d : i = b
    · rw [if_pos d, d]
      omega
    · rw [if_neg d, e i hi c d]
      rfl
theorem sZ_shift (f : Nat → Int) : ∀ n, sZ (n + 1) f = f 0 + sZ n fun i => f (i + 1)
  | 0 => by simp [sZ]
  | n + 1 => by
    rw [sZ, sZ_shift f n, sZ]
    omega
theorem sZ_le {f g : Nat → Int} : ∀ {n : Nat}, (∀ i, i < n → f i ≤ g i) → sZ n f ≤ sZ n g
  | 0, _ => Int.le_refl _
  | n + 1, h => by
    have h1 := sZ_le (f := f) (g := g) (n := n) fun i hi => h i (by omega)
    have h2 := h n (by omega)
    rw [sZ, sZ]
    omega
/-- the places but i -/
def sk (i r : Nat) : Nat := if r < i then r else r + 1
theorem sZ_skip (f : Nat → Int) (i : Nat) : ∀ n, i ≤ n → sZ (n + 1) f = f i + sZ n fun r => f (sk i r)
  | 0, h => by
    have : i = 0 := by omega
    subst this
    simp [sZ]
  | n + 1, h => by
    by_cases c : i = n + 1
    · rw [sZ, c, Int.add_comm]
      congr 1
      refine sZ_congr fun r hr => ?_
      unfold sk
      rw [if_pos (by omega)]
    · rw [sZ, sZ_skip f i n (by omega), sZ]
      have : sk i n = n + 1 := by
        unfold sk
        rw [if_neg (by omega)]
      rw [this]
      omega
/-! ### rows scaled -/
def pZ : Nat → (Nat → Int) → Int
  | 0, _ => 1
  | n + 1, f => pZ n f * f n
theorem det_rzero {n : Nat} (A : Nat → Nat → Int) (a : Nat) (h : a < n) : det n (rw1 A a fun _ => 0) = 0 := by
  have := det_lin A a (fun _ => 0) (fun _ => 0) 1 h
  have e : (fun _ : Nat => (0 : Int) + 1 * 0) = fun _ => 0 := by
    funext j
    rfl
  rw [e] at this
  omega
theorem det_row1 {n : Nat} (A : Nat → Nat → Int) (a : Nat) (c : Int) (u : Nat → Int) (h : a < n) : det n (rw1 A a fun j => c * u j) = c * det n (rw1 A a u) := by
  have := det_lin A a (fun _ => 0) u c h
  rw [det_rzero A a h] at this
  rw [show (fun j => c * u j) = fun j => 0 + c * u j from funext fun j => by omega, this]
  omega
theorem det_rows {n : Nat} (A : Nat → Nat → Int) (c : Nat → Int) : det n (fun i j => c i * A i j) = pZ n c * det n A := by
  have h : ∀ m, m ≤ n → det n (fun i j => if i < m then c i * A i j else A i j) = pZ m c * det n A := fun m => by
    induction m with
    | zero =>
      intro _
      show det n A = 1 * det n A
      omega
    | succ m ih =>
      intro hm
      have e1 : (fun i j => if i < m + 1 then c i * A i j else A i j) = rw1 (fun i j => if i < m then c i * A i j else A i j) m fun j => c m * A m j := by
        funext i j
        unfold rw1
        by_cases k : i = m
        · rw [if_pos (by omega), if_pos k, k]
        · rw [if_neg k]
          by_cases l : i < m
          · rw [if_pos (by omega)]
            exact (if_pos l).symm
          · rw [if_neg (by omega)]
            exact (if_neg l).symm
      have e2 : (fun i j => if i < m then c i * A i j else A i j) = rw1 (fun i j => if i < m then c i * A i j else A i j) m fun j => A m j := by
        funext i j
        unfold rw1
        by_cases k : i = m
        · rw [if_neg (by omega), if_pos k, k]
        · rw [if_neg k]
      rw [e1, det_row1 _ m _ _ (by omega), ← e2, ih (by omega), pZ, Int.mul_comm (pZ m c) (c m), Int.mul_assoc]
  rw [← h n (Nat.le_refl _)]
  refine det_congr fun i j hi _ => ?_
  rw [if_pos hi]
/-! ### columns exchanged -/
theorem cl1_self (A : Nat → Nat → Int) (a : Nat) : cl1 A a (fun i => A i a) = A := by
  funext i j
  unfold cl1
  by_cases c : j = a
  · rw [if_pos c, c]
  · rw [if_neg c]
theorem cl1_comm (A : Nat → Nat → Int) {a b : Nat} (h : a ≠ b) (u v : Nat → Int) : cl1 (cl1 A a u) b v = cl1 (cl1 A b v) a u := by
  funext i j
  unfold cl1
  by_cases c : j = b
  · rw [if_pos c, if_neg (fun z => h (z.symm.trans c)), if_pos c]
  · rw [if_neg c, if_neg c]
theorem det_cl2 {n : Nat} (A : Nat → Nat → Int) {a b : Nat} (ha : a < n) (hb : b < n) (h : a ≠ b) (u : Nat → Int) : det n (cl1 (cl1 A a u) b u) = 0 := by
  have e : ∀ i, cl1 (cl1 A a u) b u i a = cl1 (cl1 A a u) b u i b := fun i => by
    unfold cl1
    rw [if_neg h, if_pos rfl, if_pos rfl]
  by_cases c : a < b
  · exact det_calike c hb e
  · exact det_calike (by omega) ha fun i => (e i).symm
theorem det_cadd {n : Nat} (A : Nat → Nat → Int) (a : Nat) (u v : Nat → Int) (h : a < n) : det n (cl1 A a fun j => u j + v j) = det n (cl1 A a u) + det n (cl1 A a v) := by
  have := det_clin A a u v 1 h
  rw [show (fun j => u j + 1 * v j) = fun j => u j + v j from funext fun j => by omega] at this
  omega
theorem det_cswap {n : Nat} (A : Nat → Nat → Int) {a b : Nat} (ha : a < n) (hb : b < n) (h : a ≠ b) (u v : Nat → Int) : det n (cl1 (cl1 A a u) b v) = - det n (cl1 (cl1 A a v) b u) := by
  have h0 := det_cl2 A ha hb h fun j => u j + v j
  rw [det_cadd _ b _ _ hb, cl1_comm A h, cl1_comm A h, det_cadd _ a _ _ ha, det_cadd _ a _ _ ha, ← cl1_comm A h, ← cl1_comm A h, ← cl1_comm A h, ← cl1_comm A h, det_cl2 A ha hb h u, det_cl2 A ha hb h v] at h0
  omega
/-- any column of a square whose rows are together 0 -/
theorem det_cof {n : Nat} {L : Nat → Nat → Int} (hz : ∀ i, i < n → sZ n (L i) = 0) {a b : Nat} (ha : a < n) (hb : b < n) (u : Nat → Int) : det n (cl1 L a u) = det n (cl1 L b u) := by
  by_cases h : a = b
  · rw [h]
  · have h1 := det_csum (cl1 L b u) a ha (fun m i => L i m) (fun _ => 1) n
    have h2 : det n (cl1 (cl1 L b u) a fun i => sZ n fun k => 1 * L i k) = 0 := by
      rw [← det_czero (cl1 L b u) a ha]
      refine det_congr fun i j hi _ => ?_
      show (if j = a then _ else _) = if j = a then _ else _
      by_cases c : j = a
      · rw [if_pos c, if_pos c, ← hz i hi]
        exact sZ_congr fun k _ => by omega
      · rw [if_neg c, if_neg c]
    rw [h2] at h1
    have h3 := sZ_pick2 (f := fun k => 1 * det n (cl1 (cl1 L b u) a fun i => L i k)) (n := n) ha hb h fun m hm n1 n2 => by
      have e : ∀ i, cl1 (cl1 L b u) a (fun i => L i m) i m = cl1 (cl1 L b u) a (fun i => L i m) i a := fun i => by
        unfold cl1
        rw [if_neg n1, if_neg n2, if_pos rfl]
      have : det n (cl1 (cl1 L b u) a fun i => L i m) = 0 := by
        by_cases c : m < a
        · exact det_calike c ha e
        · exact det_calike (by omega) hm fun i => (e i).symm
      show 1 * _ = 0
      rw [this]
      rfl
    rw [← h1] at h3
    have e1 : cl1 (cl1 L b u) a (fun i => L i a) = cl1 L b u := by
      rw [← cl1_comm L h, cl1_self]
    have e2 : det n (cl1 (cl1 L b u) a fun i => L i b) = - det n (cl1 L a u) := by
      rw [← cl1_comm L h, det_cswap L ha hb h, cl1_comm L h, cl1_self]
    rw [e1, e2] at h3
    omega
end Bw
/-! Part 21. A square without row and column i; what such squares of rows together 0 are times the rows; squares whose determinants are above 0, by Bareiss' pivots. Plain mathematics. -/
namespace Bw
/-- without row i and column i -/
def no (i : Nat) (A : Nat → Nat → Int) : Nat → Nat → Int := fun r c => A (sk i r) (sk i c)
def unt (i : Nat) : Nat → Int := fun r => if r = i then 1 else 0
theorem det_unt (n : Nat) : ∀ (i : Nat) (A : Nat → Nat → Int), i < n + 1 → det (n + 1) (cl1 A i (unt i)) = det n (no i A)
  | 0, A, _ => by
    rw [det, sZ_one (a := 0) (by omega) fun r _ h => by
      show sg r * (if 0 = 0 then unt 0 r else A r 0) * _ = 0
      rw [if_pos rfl]
      unfold unt
      rw [if_neg h, Int.mul_zero, Int.zero_mul]]
    have e1 : cl1 A 0 (unt 0) 0 0 = 1 := rfl
    have e2 : sg 0 = 1 := rfl
    have e3 : mn (cl1 A 0 (unt 0)) 0 = no 0 A := by
      funext r c
      unfold mn no sk cl1
      rw [if_neg (by omega), if_neg (by omega), if_neg (by omega)]
    rw [e1, e2, e3]
    omega
  | i + 1, A, h => by
    have ih := det_unt n i (tr (sw1 (tr (sw1 A i)) i)) (by omega)
    have e1 : cl1 (tr (sw1 (tr (sw1 A i)) i)) i (unt i) = tr (sw1 (tr (sw1 (cl1 A (i + 1) (unt (i + 1))) i)) i) := by
      funext r c
      unfold cl1 tr sw1 unt
      dsimp only
      grind
    have e2 : no i (tr (sw1 (tr (sw1 A i)) i)) = no (i + 1) A := by
      funext r c
      unfold no tr sw1 sk
      dsimp only
      grind
    rw [e1, e2, det_tr, det_swap (by omega), det_tr, det_swap (by omega)] at ih
    omega
/-- the determinants without each row and its column, times the rows -/
theorem det_rest {n : Nat} {L : Nat → Nat → Int} (hz : ∀ i, i < n + 1 → sZ (n + 1) (L i) = 0) {j : Nat} (hj : j < n + 1) : sZ (n + 1) (fun i => L i j * det n (no i L)) = 0 := by
  have main : ∀ k, k < n + 1 → sZ (n + 1) (fun i => L i j * det n (no i L)) = det (n + 1) (cl1 L k fun r => L r j) := fun k hk => by
    have h1 := det_csum L k hk (fun i r => unt i r) (fun i => L i j) (n + 1)
    have h2 : det (n + 1) (cl1 L k fun r => sZ (n + 1) fun i => L i j * unt i r) = det (n + 1) (cl1 L k fun r => L r j) := by
      refine det_congr fun r c hr _ => ?_
      show (if c = k then _ else _) = if c = k then _ else _
      by_cases e : c = k
      · rw [if_pos e, if_pos e]
        show sZ (n + 1) (fun i => L i j * unt i r) = L r j
        rw [sZ_one (a := r) hr fun i _ ne => by
          show L i j * (if r = i then 1 else 0) = 0
          rw [if_neg (fun z => ne z.symm), Int.mul_zero]]
        show L r j * (if r = r then 1 else 0) = L r j
        rw [if_pos rfl, Int.mul_one]
      · rw [if_neg e, if_neg e]
    rw [← h2, h1]
    refine sZ_congr fun i hi => ?_
    rw [← det_unt n i L hi, det_cof hz hi hk (unt i)]
  cases n with
  | zero =>
    have : j = 0 := by omega
    subst this
    have h0 := hz 0 (by omega)
    simp only [sZ] at h0 ⊢
    rw [show L 0 0 = 0 by omega]
    omega
  | succ n =>
    by_cases c : j = 0
    · rw [main 1 (by omega)]
      refine det_calike (a := 0) (b := 1) (by omega) (by omega) fun i => ?_
      unfold cl1
      rw [if_neg (by omega), if_pos rfl, c]
    · rw [main 0 (by omega)]
      refine det_calike (a := 0) (b := j) (by omega) hj fun i => ?_
      unfold cl1
      rw [if_pos rfl, if_neg c]
/-! ### squares of which each row leads out -/
inductive Out (m : Nat) (A : Nat → Nat → Int) : Nat → Prop
  | done {i : Nat} (h : i < m) (s : 0 < sZ m (A i)) : Out m A i
  | step {i j : Nat} (hi : i < m) (hj : j < m) (ne : i ≠ j) (s : A i j < 0) (o : Out m A j) : Out m A i
structure Gd (m : Nat) (A : Nat → Nat → Int) : Prop where
  off : ∀ i j, i < m → j < m → i ≠ j → A i j ≤ 0
  sum : ∀ i, i < m → 0 ≤ sZ m (A i)
  out : ∀ i, i < m → Out m A i
theorem Gd.corner {m : Nat} {A : Nat → Nat → Int} (g : Gd (m + 1) A) : 0 < A 0 0 := by
  have s0 := g.sum 0 (by omega)
  rw [sZ_shift] at s0
  have up : ∀ f : Nat → Int, (∀ i, i < m → f i ≤ 0) → sZ m f ≤ 0 := fun f h => by
    have := sZ_le (f := f) (g := fun _ => 0) (n := m) h
    rw [sZ_zero fun _ _ => rfl] at this
    exact this
  have le0 := up (fun i => A 0 (i + 1)) fun i hi => g.off 0 (i + 1) (by omega) (by omega) (by omega)
  cases g.out 0 (by omega) with
  | done h s =>
    rw [sZ_shift] at s
    omega
  | step hi hj ne s o =>
    rename_i j
    have : sZ m (fun i => A 0 (i + 1)) ≤ A 0 j := by
      have h1 := sZ_le (f := fun i => A 0 (i + 1)) (g := fun i => if i = j - 1 then A 0 j else 0) (n := m) fun i hi => by
        by_cases c : i = j - 1
        · rw [if_pos c, show i + 1 = j by omega]
          exact Int.le_refl _
        · rw [if_neg c]
          exact g.off 0 (i + 1) (by omega) (by omega) (by omega)
      rw [sZ_one (a := j - 1) (by omega) fun i _ h => if_neg h, if_pos rfl] at h1
      exact h1
    omega
theorem chio_sum (m : Nat) (A : Nat → Nat → Int) (i : Nat) : sZ m (chio A i) = A 0 0 * sZ (m + 1) (A (i + 1)) - A (i + 1) 0 * sZ (m + 1) (A 0) := by
  rw [sZ_shift, sZ_shift]
  have e : chio A i = fun j => A 0 0 * A (i + 1) (j + 1) + (- A (i + 1) 0) * A 0 (j + 1) := by
    funext j
    unfold chio
    rw [Int.neg_mul]
    omega
  rw [e, sZ_lin, sZ_mul]
  grind
theorem Gd.chio {m : Nat} {A : Nat → Nat → Int} (g : Gd (m + 1) A) : Gd m (chio A) := by
  have p := g.corner
  have neg : ∀ i, i < m → A (i + 1) 0 ≤ 0 := fun i hi => g.off _ _ (by omega) (by omega) (by omega)
  have neg0 : ∀ i, i < m → A 0 (i + 1) ≤ 0 := fun i hi => g.off _ _ (by omega) (by omega) (by omega)
  have up : ∀ {i j}, i < m → j < m → Bw.chio A i j ≤ A 0 0 * A (i + 1) (j + 1) := fun {i j} hi hj => by
    have := Int.mul_nonneg_of_nonpos_of_nonpos (neg i hi) (neg0 j hj)
    unfold Bw.chio
    omega
  have s0 := g.sum 0 (by omega)
  have low : ∀ i, i < m → A 0 0 * sZ (m + 1) (A (i + 1)) ≤ sZ m (Bw.chio A i) := fun i hi => by
    have := Int.mul_nonpos_of_nonpos_of_nonneg (neg i hi) s0
    rw [chio_sum]
    omega
  have o : ∀ i, Out (m + 1) A i → (∀ q, i = q + 1 → Out m (Bw.chio A) q) ∧ (i = 0 → ∀ q, q < m → A (q + 1) 0 < 0 → Out m (Bw.chio A) q) := fun i h => by
    induction h with
    | @done i h s =>
      refine ⟨fun q e => ?_, fun e q hq ne => ?_⟩
      · subst e
        have h1 := low q (by omega)
        have h2 := Int.mul_pos p s
        exact .done (by omega) (by omega)
      · subst e
        have h1 := Int.mul_nonneg (Int.le_of_lt p) (g.sum (q + 1) (by omega))
        have h2 := Int.mul_neg_of_neg_of_pos ne s
        refine .done hq ?_
        rw [chio_sum]
        omega
    | @step i j hi hj ne s o ih =>
      refine ⟨fun q e => ?_, fun e q hq n0 => ?_⟩
      · subst e
        cases j with
        | zero => exact ih.2 rfl q (by omega) s
        | succ t =>
          have h1 := up (i := q) (j := t) (by omega) (by omega)
          have h2 := Int.mul_neg_of_pos_of_neg p s
          exact .step (by omega) (by omega) (by omega) (by omega) (ih.1 t rfl)
      · subst e
        cases j with
        | zero => exact absurd rfl ne
        | succ t =>
          by_cases c : q = t
          · subst c
            exact ih.1 q rfl
          · have h1 := Int.mul_pos_of_neg_of_neg n0 s
            have h2 := Int.mul_nonpos_of_nonneg_of_nonpos (Int.le_of_lt p) (g.off (q + 1) (t + 1) (by omega) (by omega) (by omega))
            refine .step hq (by omega) c ?_ (ih.1 t rfl)
            unfold Bw.chio
            omega
  refine ⟨fun i j hi hj ne => ?_, fun i hi => ?_, fun i hi => (o (i + 1) (g.out (i + 1) (by omega))).1 i rfl⟩
  · have h1 := up hi hj
    have h2 := Int.mul_nonpos_of_nonneg_of_nonpos (Int.le_of_lt p) (g.off (i + 1) (j + 1) (by omega) (by omega) (by omega))
    omega
  · have h1 := low i hi
    have h2 := Int.mul_nonneg (Int.le_of_lt p) (g.sum (i + 1) (by omega))
    omega
theorem Gd.det : ∀ {m : Nat} {A : Nat → Nat → Int}, Gd m A → 0 < det m A
  | 0, _, _ => by
    show (0 : Int) < 1
    decide
  | m + 1, A, g => by
    have h1 := det_chio m A
    have h2 := Int.mul_pos g.corner (Gd.det g.chio)
    rw [← h1] at h2
    exact Int.pos_of_mul_pos_right h2 (Int.pow_pos g.corner)
end Bw
/-! Part 22. A square of numbers of which each place leads to each: what goes out less what goes over; its trees' sums; what rests is one but for a factor; Bareiss' pivots are above 0. Plain mathematics. -/
namespace Bw
/-- what goes out, less the square -/
def lap (n : Nat) (M : Nat → Nat → Nat) : Nat → Nat → Int := fun i j => (if i = j then ((sN n (M i) : Nat) : Int) else 0) - (M i j : Int)
theorem sZ_nat (f : Nat → Nat) : ∀ n, sZ n (fun i => (f i : Int)) = ((sN n f : Nat) : Int)
  | 0 => rfl
  | n + 1 => by
    rw [sZ, sZ_nat f n, sN]
    omega
theorem lap_zero (n : Nat) (M : Nat → Nat → Nat) : ∀ i, i < n → sZ n (lap n M i) = 0 := fun i hi => by
  have e : lap n M i = fun j => (if i = j then ((sN n (M i) : Nat) : Int) else 0) + (-1) * (M i j : Int) := by
    funext j
    unfold lap
    omega
  rw [e, sZ_lin, sZ_nat, sZ_one (a := i) hi fun j _ ne => if_neg fun z => ne z.symm, if_pos rfl]
  omega
theorem lap_off {n : Nat} {M : Nat → Nat → Nat} {i j : Nat} (h : i ≠ j) : lap n M i j = - (M i j : Int) := by
  unfold lap
  rw [if_neg h]
  omega
theorem sk_ne (i r : Nat) : sk i r ≠ i := by
  unfold sk
  split <;> omega
theorem sk_lt {i r n : Nat} (h : r < n) : sk i r < n + 1 := by
  unfold sk
  split <;> omega
theorem sk_inj {i r s : Nat} (h : sk i r = sk i s) : r = s := by
  unfold sk at h
  grind
theorem sk_of {i a n : Nat} (h : a < n + 1) (hi : i < n + 1) (ne : a ≠ i) : ∃ r, r < n ∧ sk i r = a := by
  by_cases c : a < i
  · exact ⟨a, by omega, if_pos c⟩
  · exact ⟨a - 1, by omega, by unfold sk; rw [if_neg (by omega)]; omega⟩
theorem no_sum {n : Nat} {M : Nat → Nat → Nat} {i r : Nat} (hi : i < n + 1) (hr : r < n) : sZ n (no i (lap (n + 1) M) r) = (M (sk i r) i : Int) := by
  have h1 := lap_zero (n + 1) M (sk i r) (sk_lt hr)
  rw [sZ_skip _ i n (by omega), lap_off (sk_ne i r)] at h1
  show sZ n (fun c => lap (n + 1) M (sk i r) (sk i c)) = _
  omega
theorem no_good {n : Nat} {M : Nat → Nat → Nat} (h : StrN (n + 1) M) {i : Nat} (hi : i < n + 1) : Gd n (no i (lap (n + 1) M)) := by
  have out : ∀ a, Reach (fun x y => EdN (n + 1) M y x) i a → ∀ r, r < n → sk i r = a → Out n (no i (lap (n + 1) M)) r := fun a ra => by
    induction ra with
    | refl =>
      intro r _ e
      exact absurd e (sk_ne i r)
    | step rb e ih =>
      rename_i b c
      intro r hr er
      obtain ⟨e1, e2, e3⟩ := e
      by_cases z : b = i
      · refine .done hr ?_
        rw [no_sum hi hr, er]
        rw [z] at e3
        omega
      · obtain ⟨s, hs, es⟩ := sk_of e2 hi z
        by_cases q : r = s
        · rw [q]
          exact ih s hs es
        · refine .step hr hs q ?_ (ih s hs es)
          show lap (n + 1) M (sk i r) (sk i s) < 0
          rw [lap_off fun z => q (sk_inj z), er, es]
          omega
  refine ⟨fun r s hr hs ne => ?_, fun r hr => ?_, fun r hr => ?_⟩
  · show lap (n + 1) M (sk i r) (sk i s) ≤ 0
    rw [lap_off fun z => ne (sk_inj z)]
    omega
  · rw [no_sum hi hr]
    omega
  · refine out (sk i r) ?_ r hr rfl
    have h1 := h (sk i r) i (sk_lt hr) hi
    exact Reach.back (E := fun x y => EdN (n + 1) M y x) h1
/-- the trees' sum into i, times what goes out of the others -/
def wZ (n : Nat) (M : Nat → Nat → Nat) (i : Nat) : Int := det (n - 1) (no i (lap n M))
theorem wZ_pos {n : Nat} {M : Nat → Nat → Nat} (h : StrN n M) {i : Nat} (hi : i < n) : 0 < wZ n M i := by
  obtain ⟨k, rfl⟩ : ∃ k, n = k + 1 := ⟨n - 1, by omega⟩
  exact (no_good h hi).det
theorem wZ_rest {n : Nat} {M : Nat → Nat → Nat} {j : Nat} (hj : j < n) : sZ n (fun i => wZ n M i * lap n M i j) = 0 := by
  obtain ⟨k, rfl⟩ : ∃ k, n = k + 1 := ⟨n - 1, by omega⟩
  rw [← det_rest (lap_zero (k + 1) M) hj]
  exact sZ_congr fun i _ => Int.mul_comm _ _
/-- numbers by which what comes is what goes, the other way told -/
theorem sol_rest {n : Nat} {M : Nat → Nat → Nat} {j : Nat} (hj : j < n) : sZ n (fun i => (sol n M i : Int) * lap n M i j) = 0 := by
  have h1 := sol_bal (k := n) M (by omega) j hj
  have e : (fun i => (sol n M i : Int) * lap n M i j) = fun i => (if j = i then (sol n M j : Int) * ((sN n (M j) : Nat) : Int) else 0) + (-1) * ((sol n M i * M i j : Nat) : Int) := by
    funext i
    unfold lap
    by_cases c : i = j
    · rw [if_pos c, if_pos c.symm, c, Int.mul_sub, Int.natCast_mul]
      omega
    · rw [if_neg c, if_neg fun z => c z.symm, Int.mul_sub, Int.natCast_mul]
      omega
  rw [e, sZ_lin, sZ_nat, h1, sZ_one (a := j) hj fun i _ ne => if_neg fun z => ne z.symm, if_pos rfl, Int.natCast_mul]
  omega
theorem sZ_le0 {f : Nat → Int} : ∀ {n : Nat}, (∀ i, i < n → f i ≤ 0) → sZ n f = 0 → ∀ i, i < n → f i = 0
  | 0, _, _, i, h => by omega
  | n + 1, h, s, i, hi => by
    have up := sZ_le (f := f) (g := fun _ => 0) (n := n) fun i hi => h i (by omega)
    rw [sZ_zero fun _ _ => rfl] at up
    have hn := h n (by omega)
    rw [sZ] at s
    by_cases c : i = n
    · rw [c]
      omega
    · exact sZ_le0 (n := n) (fun i hi => h i (by omega)) (by omega) i (by omega)
/-- the least of quotients -/
theorem least_at (x y : Nat → Int) : ∀ n, (∀ i, i < n + 1 → 0 < y i) → ∃ k, k < n + 1 ∧ ∀ i, i < n + 1 → x k * y i ≤ x i * y k
  | 0, _ => ⟨0, by omega, fun i hi => by
    have : i = 0 := by omega
    rw [this]
    exact Int.le_refl _⟩
  | n + 1, h => by
    obtain ⟨k, hk, hl⟩ := least_at x y n fun i hi => h i (by omega)
    by_cases c : x k * y (n + 1) ≤ x (n + 1) * y k
    · refine ⟨k, by omega, fun i hi => ?_⟩
      by_cases d : i = n + 1
      · rw [d]
        exact c
      · exact hl i (by omega)
    · refine ⟨n + 1, by omega, fun i hi => ?_⟩
      by_cases d : i = n + 1
      · rw [d]
        exact Int.le_refl _
      · have h1 := hl i (by omega)
        have h2 := h i (by omega)
        have h3 := h (n + 1) (by omega)
        have h4 := h k (by omega)
        -- x' y_k < x_k y', x_k y_i ≤ x_i y_k
        have a1 : x (n + 1) * y k * y i ≤ x k * y (n + 1) * y i := Int.mul_le_mul_of_nonneg_right (by omega) (by omega)
        have a2 : x k * y i * y (n + 1) ≤ x i * y k * y (n + 1) := Int.mul_le_mul_of_nonneg_right h1 (by omega)
        have a3 : (x (n + 1) * y i) * y k ≤ (x i * y (n + 1)) * y k := by grind
        exact Int.le_of_mul_le_mul_right a3 h4
theorem rest_one {n : Nat} {M : Nat → Nat → Nat} (h : StrN n M) {x y : Nat → Int} (hy : ∀ i, i < n → 0 < y i) (rx : ∀ j, j < n → sZ n (fun i => x i * lap n M i j) = 0) (ry : ∀ j, j < n → sZ n (fun i => y i * lap n M i j) = 0) {i j : Nat} (hi : i < n) (hj : j < n) : x i * y j = x j * y i := by
  obtain ⟨m, rfl⟩ : ∃ m, n = m + 1 := ⟨n - 1, by omega⟩
  obtain ⟨k, hk, hl⟩ := least_at x y m hy
  have z0 : ∀ a, Reach (fun p q => EdN (m + 1) M q p) k a → a < m + 1 ∧ x a * y k = x k * y a := fun a ra => by
    induction ra with
    | refl => exact ⟨hk, rfl⟩
    | step rb e ih =>
      rename_i b c
      obtain ⟨e1, e2, e3⟩ := e
      obtain ⟨hb, eb⟩ := ih
      refine ⟨e1, ?_⟩
      by_cases q : c = b
      · rw [q]
        exact eb
      · have s : sZ (m + 1) (fun i => (x i * y k - x k * y i) * lap (m + 1) M i b) = 0 := by
          have e : (fun i => (x i * y k - x k * y i) * lap (m + 1) M i b) = fun i => y k * (x i * lap (m + 1) M i b) + (- x k) * (y i * lap (m + 1) M i b) := by
            funext i
            grind
          rw [e, sZ_lin, sZ_mul, rx b hb, ry b hb]
          omega
        have t := sZ_le0 (fun i hi => by
          by_cases q : i = b
          · rw [q, eb]
            omega
          · have h1 := hl i hi
            rw [lap_off q]
            refine Int.mul_nonpos_of_nonneg_of_nonpos (by omega) (by omega)) s c e1
        rw [lap_off q] at t
        rcases Int.mul_eq_zero.mp t with t | t
        · omega
        · omega
  have all : ∀ a, a < m + 1 → x a * y k = x k * y a := fun a ha => (z0 a (Reach.back (E := fun p q => EdN (m + 1) M q p) (h a k ha hk))).2
  have e1 := all i hi
  have e2 := all j hj
  have p := hy k hk
  refine Int.eq_of_mul_eq_mul_right (a := y k) (by omega) ?_
  grind
/-- the trees' sums are the law's own numbers, but for a factor -/
theorem wZ_sol {n : Nat} {M : Nat → Nat → Nat} (h : StrN n M) {i j : Nat} (hi : i < n) (hj : j < n) : wZ n M i * sol n M j = wZ n M j * sol n M i :=
  rest_one h (x := wZ n M) (y := fun i => (sol n M i : Int)) (fun i hi => by
    have := sol_pos h i hi
    show (0 : Int) < (sol n M i : Int)
    omega) (fun j hj => wZ_rest hj) (fun j hj => sol_rest hj) hi hj
/-! ### Bareiss' pivots -/
theorem Gd.unscale {m : Nat} {B : Nat → Nat → Int} {q : Int} (hq : 0 < q) (g : Gd m fun i j => q * B i j) : Gd m B := by
  have s : ∀ i, sZ m (fun j => q * B i j) = q * sZ m (B i) := fun i => sZ_mul q (B i) m
  refine ⟨fun i j hi hj ne => ?_, fun i hi => ?_, fun i hi => ?_⟩
  · have h1 := g.off i j hi hj ne
    by_cases c : B i j ≤ 0
    · exact c
    · have := Int.mul_pos hq (show 0 < B i j by omega)
      omega
  · have h1 := g.sum i hi
    rw [s] at h1
    by_cases c : 0 ≤ sZ m (B i)
    · exact c
    · have := Int.mul_neg_of_pos_of_neg hq (show sZ m (B i) < 0 by omega)
      omega
  · have o := g.out i hi
    induction o with
    | @done a h t =>
      rw [s] at t
      refine .done h ?_
      by_cases c : 0 < sZ m (B a)
      · exact c
      · have := Int.mul_nonpos_of_nonneg_of_nonpos (Int.le_of_lt hq) (Int.not_lt.mp c)
        omega
    | @step a b h1 h2 ne t o ih =>
      refine .step h1 h2 ne ?_ (ih h2)
      by_cases c : 0 ≤ B a b
      · have := Int.mul_nonneg (Int.le_of_lt hq) c
        omega
      · omega
theorem Gd.pivots {m : Nat} {A : Nat → Nat → Int} (g : Gd m A) : ∀ t, t ≤ m → Gd (m - t) (bb A t) ∧ 0 < bq A t
  | 0, _ => ⟨g, by
    show (0 : Int) < 1
    decide⟩
  | t + 1, ht => by
    have all : ∀ s, s ≤ t → Gd (m - s) (bb A s) ∧ 0 < bq A s := fun s hs => g.pivots s (by omega)
    have piv : ∀ s, s ≤ t → 0 < bb A s 0 0 := fun s hs => by
      have h1 := (all s hs).1
      have e : m - s = (m - s - 1) + 1 := by omega
      rw [e] at h1
      exact h1.corner
    have ex := (bareiss t A fun s hs => by
      have := piv s (by omega)
      omega).2
    obtain ⟨h1, h2⟩ := all t (Nat.le_refl _)
    have e : m - t = (m - (t + 1)) + 1 := by omega
    rw [e] at h1
    refine ⟨Gd.unscale h2 ?_, piv t (Nat.le_refl _)⟩
    have c : Bw.chio (bb A t) = fun i j => bq A t * bb A (t + 1) i j := by
      funext i j
      rw [bb_succ, ex, Int.mul_ediv_cancel_left _ (by omega)]
    rw [← c]
    exact h1.chio
termination_by t => t
decreasing_by omega
/-- what is left at last is the determinant -/
theorem Gd.last {m : Nat} {A : Nat → Nat → Int} (g : Gd m A) : bq A m = Bw.det m A := by
  cases m with
  | zero => rfl
  | succ k =>
    have h := (bareiss k A fun s hs => by
      have h1 := (g.pivots s (by omega)).1
      have e : k + 1 - s = (k - s) + 1 := by omega
      rw [e] at h1
      have := h1.corner
      omega).1 0
    rw [Int.pow_zero, Int.one_mul, det_one] at h
    exact h
end Bw
/-! Part 23. math.lcm; the least number that each of some fractions times it is whole. -/
namespace Bw
open PySem PySem.Spec PyProof.Rows L2
section
variable {X : Cx}
def rLcm : List V → Hp → VK → Prop := fun vs H Q => ∃ a b : Int, vs = [.int a, .int b] ∧ a.natAbs < 2 ^ 64 ∧ b.natAbs < 2 ^ 64 ∧ Q (.int ((Nat.lcm a.natAbs b.natAbs : Nat) : Int)) H
theorem cr_lcm : CallR X (.builtin "math.lcm") rLcm := by
  intro pins s σ H vs us Q I r h
  obtain ⟨a, b, rfl, ha, hb, q⟩ := h
  obtain ⟨t, u, rfl⟩ := Vals.int2 r
  exact PySem.W.mc_lcm ha hb fun _ => ⟨.int _, H, I.tok _, ⟨_, rfl⟩, q⟩
end
/-- the least number that each of some fractions times it is whole -/
def cb (qs : List Rat) : Nat := qs.foldl (fun l q => Nat.lcm l q.den) 1
theorem cb_snoc (qs : List Rat) (q : Rat) : cb (qs ++ [q]) = Nat.lcm (cb qs) q.den := by
  unfold cb
  rw [List.foldl_append]
  rfl
theorem cb_take {qs : List Rat} {i : Nat} {q : Rat} (h : qs[i]? = some q) : cb (qs.take (i + 1)) = Nat.lcm (cb (qs.take i)) q.den := by
  rw [List.take_succ, h]
  exact cb_snoc _ _
theorem cb_fold {R : Nat} : ∀ {qs : List Rat} {l : Nat}, l ∣ R → (∀ q ∈ qs, q.den ∣ R) → qs.foldl (fun l q => Nat.lcm l q.den) l ∣ R
  | [], _, h, _ => h
  | q :: qs, l, h, hq => by
    rw [List.foldl_cons]
    exact cb_fold (Nat.lcm_dvd h (hq q List.mem_cons_self)) fun p hp => hq p (List.mem_cons_of_mem _ hp)
theorem cb_dvd {R : Nat} {qs : List Rat} (h : ∀ q ∈ qs, q.den ∣ R) : cb qs ∣ R := cb_fold (Nat.one_dvd R) h
theorem fold_up : ∀ {qs : List Rat} {l : Nat}, l ∣ qs.foldl (fun l q => Nat.lcm l q.den) l ∧ ∀ q ∈ qs, q.den ∣ qs.foldl (fun l q => Nat.lcm l q.den) l
  | [], _ => ⟨Nat.dvd_refl _, fun q h => by simp at h⟩
  | q :: qs, l => by
    rw [List.foldl_cons]
    obtain ⟨h1, h2⟩ := fold_up (qs := qs) (l := Nat.lcm l q.den)
    refine ⟨Nat.dvd_trans (Nat.dvd_lcm_left _ _) h1, fun p hp => ?_⟩
    rcases List.mem_cons.mp hp with rfl | hp
    · exact Nat.dvd_trans (Nat.dvd_lcm_right _ _) h1
    · exact h2 p hp
theorem den_cb {qs : List Rat} {q : Rat} (h : q ∈ qs) : q.den ∣ cb qs := fold_up.2 q h
theorem cb_pos {R : Nat} {qs : List Rat} (h0 : 0 < R) (h : ∀ q ∈ qs, q.den ∣ R) : 0 < cb qs := Nat.pos_of_dvd_of_pos (cb_dvd h) h0
/-- the fraction times a number that makes it whole -/
def upZ (L : Nat) (q : Rat) : Int := q.num * ((L : Int) / (q.den : Int))
theorem upZ_eq {L : Nat} {q : Rat} (h : q.den ∣ L) : ((upZ L q : Int) : Rat) = (L : Rat) * q := by
  obtain ⟨k, rfl⟩ := h
  have d0 : (0 : Int) < (q.den : Int) := Bq.den_pos q
  unfold upZ
  rw [Int.natCast_mul, Int.mul_ediv_cancel_left _ (by omega)]
  have e : q = (q.num : Rat) / ((q.den : Int) : Rat) := by
    have := Bq.num_over q
    rw [Rat.divInt_eq_div] at this
    exact this.symm
  have d1 : (((q.den : Int)) : Rat) ≠ 0 := by
    intro z
    have : (q.den : Int) = 0 := by exact_mod_cast z
    omega
  have e2 : ((q.den * k : Nat) : Rat) = ((q.den : Int) : Rat) * ((k : Int) : Rat) := by
    rw [← Rat.intCast_mul, ← Int.natCast_mul]
    exact (Rat.intCast_natCast _).symm
  rw [Rat.intCast_mul, e2]
  generalize ((k : Int) : Rat) = x
  generalize (((q.den : Int)) : Rat) = d at *
  generalize ((q.num : Int) : Rat) = y at *
  rw [e]
  grind
end Bw
/-! Part 24. Such squares' determinants are at most what stands from corner to corner multiplied; rows scaled. Plain mathematics. -/
namespace Bw
theorem Gd.diag {m : Nat} {A : Nat → Nat → Int} (g : Gd m A) {i : Nat} (hi : i < m) : 0 ≤ A i i := by
  have h0 := g.sum i hi
  have h1 := sZ_le (f := A i) (g := fun j => if j = i then A i i else 0) (n := m) fun j hj => by
    by_cases c : j = i
    · rw [if_pos c, c]
      exact Int.le_refl _
    · rw [if_neg c]
      exact g.off i j hi hj fun z => c z.symm
  rw [sZ_one (a := i) hi fun j _ h => if_neg h, if_pos rfl] at h1
  omega
theorem pZ_le {f g : Nat → Int} : ∀ {n : Nat}, (∀ i, i < n → 0 ≤ f i ∧ f i ≤ g i) → 0 ≤ pZ n f ∧ pZ n f ≤ pZ n g
  | 0, _ => ⟨by show (0 : Int) ≤ 1; decide, Int.le_refl _⟩
  | n + 1, h => by
    obtain ⟨h1, h2⟩ := pZ_le (f := f) (g := g) (n := n) fun i hi => h i (by omega)
    obtain ⟨h3, h4⟩ := h n (by omega)
    rw [pZ, pZ]
    exact ⟨Int.mul_nonneg h1 h3, Int.mul_le_mul h2 h4 h3 (by omega)⟩
theorem pZ_shift (f : Nat → Int) : ∀ n, pZ (n + 1) f = f 0 * pZ n fun i => f (i + 1)
  | 0 => by simp [pZ]
  | n + 1 => by
    rw [pZ, pZ_shift f n, pZ, Int.mul_assoc]
theorem pZ_scale (c : Int) (f : Nat → Int) : ∀ n, pZ n (fun i => c * f i) = c ^ n * pZ n f
  | 0 => by simp [pZ]
  | n + 1 => by
    rw [pZ, pZ, pZ_scale c f n, Int.pow_succ]
    generalize c ^ n = x
    generalize pZ n f = y
    grind
theorem pZ_pos {f : Nat → Int} : ∀ {n : Nat}, (∀ i, i < n → 0 < f i) → 0 < pZ n f
  | 0, _ => by show (0 : Int) < 1; decide
  | n + 1, h => by
    rw [pZ]
    exact Int.mul_pos (pZ_pos fun i hi => h i (by omega)) (h n (by omega))
theorem pZ_lt {f : Nat → Int} {b : Nat} : ∀ {n : Nat}, (∀ i, i < n → (f i).natAbs < 2 ^ b) → (pZ n f).natAbs < 2 ^ (1 + n * b)
  | 0, _ => by
    rw [Nat.zero_mul]
    show 1 < 2
    decide
  | n + 1, h => by
    rw [pZ, Nat.succ_mul, ← Nat.add_assoc]
    exact Bq.mul_lt (pZ_lt fun i hi => h i (by omega)) (h n (by omega))
theorem Gd.det_le : ∀ {m : Nat} {A : Nat → Nat → Int}, Gd m A → Bw.det m A ≤ pZ m fun i => A i i
  | 0, _, _ => Int.le_refl _
  | m + 1, A, g => by
    have p := g.corner
    have h1 := det_chio m A
    have h2 := Gd.det_le g.chio
    have h3 := (pZ_le (f := fun i => Bw.chio A i i) (g := fun i => A 0 0 * A (i + 1) (i + 1)) (n := m) fun i hi => by
      refine ⟨g.chio.diag hi, ?_⟩
      have := Int.mul_nonneg_of_nonpos_of_nonpos (g.off (i + 1) 0 (by omega) (by omega) (by omega)) (g.off 0 (i + 1) (by omega) (by omega) (by omega))
      unfold Bw.chio
      omega).2
    rw [pZ_scale] at h3
    rw [pZ_shift]
    have h4 : A 0 0 ^ m * Bw.det (m + 1) A ≤ A 0 0 ^ m * (A 0 0 * pZ m fun i => A (i + 1) (i + 1)) := by
      rw [h1, Int.mul_left_comm]
      exact Int.mul_le_mul_of_nonneg_left (Int.le_trans h2 h3) (Int.le_of_lt p)
    exact Int.le_of_mul_le_mul_left h4 (Int.pow_pos p)
/-- rows times numbers above 0 -/
theorem Gd.unrows {m : Nat} {B : Nat → Nat → Int} {q : Nat → Int} (hq : ∀ i, i < m → 0 < q i) (g : Gd m fun i j => q i * B i j) : Gd m B := by
  have s : ∀ i, sZ m (fun j => q i * B i j) = q i * sZ m (B i) := fun i => sZ_mul (q i) (B i) m
  refine ⟨fun i j hi hj ne => ?_, fun i hi => ?_, fun i hi => ?_⟩
  · have h1 := g.off i j hi hj ne
    by_cases c : B i j ≤ 0
    · exact c
    · have := Int.mul_pos (hq i hi) (show 0 < B i j by omega)
      omega
  · have h1 := g.sum i hi
    rw [s] at h1
    by_cases c : 0 ≤ sZ m (B i)
    · exact c
    · have := Int.mul_neg_of_pos_of_neg (hq i hi) (show sZ m (B i) < 0 by omega)
      omega
  · have o := g.out i hi
    induction o with
    | @done a h t =>
      rw [s] at t
      refine .done h ?_
      by_cases c : 0 < sZ m (B a)
      · exact c
      · have := Int.mul_nonpos_of_nonneg_of_nonpos (Int.le_of_lt (hq a h)) (Int.not_lt.mp c)
        omega
    | @step a b h1 h2 ne t o ih =>
      refine .step h1 h2 ne ?_ (ih h2)
      by_cases c : 0 ≤ B a b
      · have := Int.mul_nonneg (Int.le_of_lt (hq a h1)) c
        omega
      · omega
theorem Gd.rows {m : Nat} {B : Nat → Nat → Int} {q : Nat → Int} (hq : ∀ i, i < m → 0 < q i) (g : Gd m B) : Gd m fun i j => q i * B i j := by
  have s : ∀ i, sZ m (fun j => q i * B i j) = q i * sZ m (B i) := fun i => sZ_mul (q i) (B i) m
  refine ⟨fun i j hi hj ne => Int.mul_nonpos_of_nonneg_of_nonpos (Int.le_of_lt (hq i hi)) (g.off i j hi hj ne), fun i hi => ?_, fun i hi => ?_⟩
  · rw [s]
    exact Int.mul_nonneg (Int.le_of_lt (hq i hi)) (g.sum i hi)
  · have o := g.out i hi
    induction o with
    | @done a h t =>
      refine .done h ?_
      rw [s]
      exact Int.mul_pos (hq a h) t
    | @step a b h1 h2 ne t o ih => exact .step h1 h2 ne (Int.mul_neg_of_pos_of_neg (hq a h1) t) (ih h2)
theorem Gd.congr {m : Nat} {A B : Nat → Nat → Int} (e : ∀ i j, i < m → j < m → A i j = B i j) (g : Gd m A) : Gd m B := by
  have s : ∀ i, i < m → sZ m (A i) = sZ m (B i) := fun i hi => sZ_congr fun j hj => e i j hi hj
  refine ⟨fun i j hi hj ne => by rw [← e i j hi hj]; exact g.off i j hi hj ne, fun i hi => by rw [← s i hi]; exact g.sum i hi, fun i hi => ?_⟩
  have o := g.out i hi
  induction o with
  | @done a h t => exact .done h (by rw [← s a h]; exact t)
  | @step a b h1 h2 ne t o ih => exact .step h1 h2 ne (by rw [← e a b h1 h2]; exact t) (ih h2)
end Bw
/-! Rows and tables by functions. -/
namespace Kx
open PySem PySem.Spec PyProof.Rows L2 Bw
theorem row_at {W : Addr → Prop} {H : Hp} {xs : List V} {n : Nat} {f : Nat → Rat} (h : DqAll W H xs (((List.range n).map f).map frD)) {i : Nat} {v : V} (e : xs[i]? = some v) : i < n ∧ Dq W H v (frD (f i)) := by
  have hl := h.length
  rw [List.length_map, List.length_map, List.length_range] at hl
  have hi : i < n := by
    have := (List.getElem?_eq_some_iff.mp e).1
    omega
  obtain ⟨d, hd, dv⟩ := h.at e
  rw [List.getElem?_map, List.getElem?_map, List.getElem?_range hi] at hd
  rw [← Option.some.inj hd] at dv
  exact ⟨hi, dv⟩
theorem tab_at {W : Addr → Prop} {H : Hp} {xs : List V} {n : Nat} {f : Nat → List Rat} (h : DqAll W H xs (((List.range n).map f).map rowD)) {i : Nat} {v : V} (e : xs[i]? = some v) : i < n ∧ Dq W H v (rowD (f i)) := by
  have hl := h.length
  rw [List.length_map, List.length_map, List.length_range] at hl
  have hi : i < n := by
    have := (List.getElem?_eq_some_iff.mp e).1
    omega
  obtain ⟨d, hd, dv⟩ := h.at e
  rw [List.getElem?_map, List.getElem?_map, List.getElem?_range hi] at hd
  rw [← Option.some.inj hd] at dv
  exact ⟨hi, dv⟩
theorem sqT_mut {K : PySem.W.Frag} {H : Hp} {a S : Addr} {xs l : List V} {o' : HO} (h : SqT K H a xs) (hS : H S = some (.lst l)) : SqT K (upd H S o') a xs := by
  rcases h with (e | ⟨o, e⟩) | e
  · have ne : a ≠ S := fun z => by
      rw [z, hS] at e
      cases e
    exact .inl (.inl (by rw [upd_ne ne]; exact e))
  · have ne : a ≠ S := fun z => by
      rw [z, hS] at e
      cases e
    exact .inl (.inr ⟨o, by rw [upd_ne ne]; exact e⟩)
  · exact .inr e
def tabF (n : Nat) (f : Nat → Nat → Rat) : List (List Rat) := (List.range n).map fun i => (List.range n).map fun j => f i j
end Kx
/-! A value bent (second family of drawings). -/
namespace Kx
open PySem PySem.Spec PyProof.Rows L2 Bw
abbrev s_law_bent : Stmt := topS 48
abbrev n_law_bent : List Str := ["well", "thing", "at", "way"]
theorem c_law_bent : FnScope n_law_bent ["well", "thing"] (defScope s_law_bent) :=
  ⟨rfl, rfl, rfl, by decide +kernel, rfl, by decide +kernel, by decide +kernel⟩

/-- numbers, tuples of such -/
def Pl : Nat → PyData → Prop
  | 0, _ => False
  | _ + 1, .int _ => True
  | D + 1, .tuple ds => ds.length ≤ 10 ∧ ∀ d ∈ ds, Pl D d
  | _ + 1, _ => False
mutual
theorem bd_mono {m n : Nat} (l : m ≤ n) : ∀ d : PyData, Bd m d → Bd n d
  | .none, _ => trivial
  | .bool _, _ => trivial
  | .str _, _ => trivial
  | .dict _, _ => trivial
  | .int i, h => by
    have h' : i.natAbs < 2 ^ m := h
    show i.natAbs < 2 ^ n
    exact Nat.lt_of_lt_of_le h' (Nat.pow_le_pow_right (by decide) l)
  | .list xs, h => bdAll_mono l xs h
  | .tuple xs, h => bdAll_mono l xs h
theorem bdAll_mono {m n : Nat} (l : m ≤ n) : ∀ ds : List PyData, BdAll m ds → BdAll n ds
  | [], _ => trivial
  | d :: ds, h => ⟨bd_mono l d h.1, bdAll_mono l ds h.2⟩
end
theorem bd_sub {m n : Nat} {ds es : List PyData} (h : BdAll m ds) (l : m ≤ n) (s : ∀ d ∈ es, d ∈ ds) : BdAll n es := bdAll_iff.mpr fun d hd => bd_mono l d (bdAll_iff.mp h d (s d hd))
theorem bd_app {n : Nat} {ds es : List PyData} (h : BdAll n ds) (k : BdAll n es) : BdAll n (ds ++ es) := bdAll_iff.mpr fun d hd => by
  rcases List.mem_append.mp hd with hd | hd
  · exact bdAll_iff.mp h d hd
  · exact bdAll_iff.mp k d hd
theorem WellAt.same {w l : Addr} {H H' : Hp} (h : WellAt w l H) (s : Same H H') : WellAt w l H' := by
  obtain ⟨st, x, ns, e1, e2, e3, e4⟩ := h
  exact ⟨st, x, ns, s _ _ e1, e2, s _ _ e3, e4⟩
theorem well_up {w l a b : Addr} {H H' H'' : Hp} (ha : a = l ∨ H a = none) (hb : b = a ∨ H' b = none) (k : Kp (At w) H H') (W : WellAt w b H'') : b = l ∨ H b = none := by
  rcases hb with hb | hb
  · rw [hb]
    exact ha
  · exact .inr (kp_free k hb (by
      obtain ⟨_, _, _, _, e, _⟩ := W
      exact e))
theorem dqAll_cut {W : Addr → Prop} {H : Hp} {xs : List V} {ds : List PyData} (h : DqAll W H xs ds) (lo hi : Option Int) : ∃ es, DqAll W H (cutV xs lo hi) es ∧ es.length ≤ ds.length ∧ ∀ d ∈ es, d ∈ ds := by
  refine ⟨_, dqAll_take _ (dqAll_drop _ h), ?_, fun d hd => List.mem_of_mem_drop (List.mem_of_mem_take hd)⟩
  rw [List.length_take, List.length_drop]
  omega
section
variable {P : Program} {w : World} {K : PySem.W.Frag} {mg : Str → Option Value} {base : Heap}
/-- lists alone, as they stand -/
def LsS (S : Addr → Prop) (H : Hp) : Prop := ∀ a, S a → ∃ ys, H a = some (.lst ys)
theorem LsS.keep {S : Addr → Prop} {H H' : Hp} {w l : Addr} (h : LsS S H) (k : Kp (At w) H H') (W : WellAt w l H') : LsS S H' := fun a s => by
  by_cases c : a = w
  · obtain ⟨st, n, ns, e, _⟩ := W
    exact ⟨_, by rw [c]; exact e⟩
  · obtain ⟨ys, e⟩ := h a s
    exact ⟨ys, k a _ c e⟩
theorem LsS.tup {S : Addr → Prop} {H : Hp} {a : Addr} {xs : List V} (h : LsS S H) (e : H a = some (.tup xs)) : ¬ S a := fun s => by
  obtain ⟨ys, e2⟩ := h a s
  rw [e] at e2
  cases e2
theorem LsS.new {S : Addr → Prop} {H : Hp} {a : Addr} (h : LsS S H) (e : H a = none) : ¬ S a := fun s => by
  obtain ⟨ys, e2⟩ := h a s
  rw [e] at e2
  cases e2
theorem LsS.old {S : Addr → Prop} {H : Hp} (h : LsS S H) : ∀ a, S a → Old H a := fun a s => by
  obtain ⟨ys, e2⟩ := h a s
  show H a ≠ none
  rw [e2]
  exact fun z => nomatch z
theorem _root_.Bw.Kp.ls {S : Addr → Prop} {H H' : Hp} {w : Addr} (k : Kp (At w) H H') (s : S w) : Kp S H H' := k.mono fun a z => by
  rw [show a = w from z]
  exact s
def spBent (D : Nat) : Sp := fun vs H Q _ => ∃ (S : Addr → Prop) (w l : Addr) (v : V) (d : PyData), vs = [.ref w, v] ∧ S w ∧ LsS S H ∧ WellAt w l H ∧ Dq S H v d ∧ Pl D d ∧ Bd 190 d ∧
  ∀ (H' : Hp) (l' : Addr) (v' : V) (d' : PyData), Kp (At w) H H' → WellAt w l' H' → (l' = l ∨ H l' = none) → Dq S H' v' d' → Bd 210 d' → lnB d' = true → Q v' H'
theorem ok_bentS {D : Nat} {f : Addr} {fd : FuncData} (F : Fun K "_law_bent" "_law_bent" s_law_bent f fd) (M : Mb mg) (Dlaw_draw : Df P w K mg base 1 "_law_draw" ["well", "limit"] spPickL)
    (Dlaw_odd : Df P w K mg base 3 "_law_odd" ["well"] spOdd) (Dlaw_bent : Df P w K mg base (5 + D) "_law_bent" ["well", "thing"] (spBent D)) :
    FnOk P w K mg base CX0 (5 + D + 1) f fd ["well", "thing"] (spBent (D + 1)) := by
  refine F.ok c_law_bent (fun vs H Q E h => ?_) (fun cdv A outer s H vs Q E hr h => ?_)
  · obtain ⟨_, w, l, v, d, rfl, _⟩ := h
    rfl
  · obtain ⟨S, w, l, v, d, rfl, sw, hS, hW, hd, hp, hb, q⟩ := h
    have hu := hr.units
    refine ⟨_, (pss_cons (ps_if (PW.pt (pw_and (pt_val (pe_callB call_isD (by rfl) M.isinstance (by decide +kernel) (pa_cons (pv 1) (pa_cons (pe_bltn (v := .ty "tuple") rfl M.tuple (by decide +kernel) rfl) pa_nil)))) (pw_and (pt_cmpR op_gt (pe_callB call_len_seq (by rfl) M.len (by decide +kernel) (pa_cons (pv 1) pa_nil)) pe_int (nomark _)) (pw_and1 (pt_cmpR op_gt (pe_call Dlaw_draw.G (hr.mono (by first | decide | omega)) rfl Dlaw_draw.g Dlaw_draw.kp Dlaw_draw.b .nil pass0 (pa_cons (pv 0) (pa_cons pe_int pa_nil))) pe_int (nomark _))))))
 (pss_cons (ps_set (i := 2) c_law_bent.nd rfl (.inl rfl) (pe_call Dlaw_draw.G (hr.mono (by first | decide | omega)) rfl Dlaw_draw.g Dlaw_draw.kp Dlaw_draw.b .nil pass0 (pa_cons (pv 0) (pa_cons (pe_callB call_len_seq (by rfl) M.len (by decide +kernel) (pa_cons (pv 1) pa_nil)) pa_nil))))
 (pss_one (ps_ret (pe_op op_catA (pe_op op_catA (pe_slice sl_tupA (pv 1) po_none (po_some (pv 2))) (pe_tup (pa_cons (pe_call Dlaw_bent.G (hr.mono (by first | decide | omega)) rfl Dlaw_bent.g Dlaw_bent.kp Dlaw_bent.b .nil pass0 (pa_cons (pv 0) (pa_cons (pe_ix ix_tup (pv 1) (pv 2) (fun _ _ => rfl)) pa_nil))) pa_nil))) (pe_slice sl_tupA (pv 1) (po_some (pe_op op_add (pv 2) pe_int)) po_none)))))
 pss_nil)
 (pss_cons (ps_set (i := 3) c_law_bent.nd rfl (.inl rfl) (pe_call Dlaw_draw.G (hr.mono (by first | decide | omega)) rfl Dlaw_draw.g Dlaw_draw.kp Dlaw_draw.b .nil pass0 (pa_cons (pv 0) (pa_cons pe_int pa_nil))))
 (pss_cons (ps_if (PW.pt (pw_and (pt_val (pe_callB call_isD (by rfl) M.isinstance (by decide +kernel) (pa_cons (pv 1) (pa_cons (pe_bltn (v := .ty "tuple") rfl M.tuple (by decide +kernel) rfl) pa_nil)))) (pw_and1 (pt_cmpR op_lt (pv 3) pe_int (nomark _)))))
 (pss_one (ps_ret (pe_ix ix_tup (pe_tup (pa_cons (pe_op op_catA (pv 1) (pe_slice sl_tupA (pv 1) (po_some (pe_un un_neg pe_int)) po_none)) (pa_cons (pe_slice sl_tupA (pv 1) (po_some pe_int) po_none) (pa_cons (pe_slice sl_tupA (pv 1) po_none (po_some (pe_un un_neg pe_int))) (pa_cons (pe_revT (pv 1)) (pa_cons (pe_callTy call_list_of (by rfl) M.list (by decide +kernel) (pa_cons (pv 1) pa_nil)) (pa_cons (pe_tup (pa_cons (pv 1) pa_nil)) (pa_cons (pe_op op_catA (pv 1) (pv 1)) pa_nil)))))))) (pv 3) (fun _ _ => rfl))))
 pss_nil)
 (pss_cons (ps_if (PW.pt (pw_and (pt_val (pe_callB call_isD (by rfl) M.isinstance (by decide +kernel) (pa_cons (pv 1) (pa_cons (pe_bltn (v := .ty "int") rfl M.int (by decide +kernel) rfl) pa_nil)))) (pw_and1 (pt_cmpR op_lt (pv 3) pe_int (nomark _)))))
 (pss_one (ps_ret (pe_ix ix_tup (pe_tup (pa_cons (pe_op op_sub (pv 1) pe_int) (pa_cons (pe_op op_add (pv 1) pe_int) (pa_cons (pe_op op_sub pe_int (pv 1)) (pa_cons (pe_op op_mul (pv 1) pe_int) (pa_cons (pe_cmpR op_gt (pv 1) pe_int (nomark _)) (pa_cons (pe_op op_add (pv 1) pe_int) (pa_cons (pe_callTy call_str_int (by rfl) M.str (by decide +kernel) (pa_cons (pv 1) pa_nil)) pa_nil)))))))) (pv 3) (fun _ _ => rfl))))
 pss_nil)
 (pss_cons (ps_if (PW.pt (pw_and (pt_val (pe_callB call_isD (by rfl) M.isinstance (by decide +kernel) (pa_cons (pv 1) (pa_cons (pe_bltn (v := .ty "str") rfl M.str (by decide +kernel) rfl) pa_nil)))) (pw_and1 (pt_cmpR op_lt (pv 3) pe_int (nomark _)))))
 (pss_one (ps_ret (pe_ix ix_tup (pe_tup (pa_cons (pe_op op_add (pv 1) pe_str) (pa_cons (pe_slice sl_tupA (pv 1) (po_some pe_int) po_none) (pa_cons (pe_slice sl_tupA (pv 1) po_none (po_some (pe_un un_neg pe_int))) (pa_cons pe_str (pa_cons pe_str (pa_cons pe_str (pa_cons pe_str pa_nil)))))))) (pv 3) (fun _ _ => rfl))))
 pss_nil)
 (pss_one (ps_ret (pe_call Dlaw_odd.G (hr.mono (by first | decide | omega)) rfl Dlaw_odd.g Dlaw_odd.kp Dlaw_odd.b .nil pass0 (pa_cons (pv 0) pa_nil))))))))), ?_⟩
    dsimp only
    refine seq_cut (fun σ H' => ∃ l', σ = [some (.ref w), some v, none, none] ∧ Kp (At w) H H' ∧ WellAt w l' H' ∧ (l' = l ∨ H l' = none)) ?_ ?_
    · rintro σ H0 ⟨l0, rfl, k0, W0, hl0⟩
      refine ⟨_, rfl, w, l0, _, rfl, by omega, by omega, W0, fun H1 way l1 y0 y1 k01 W1 hl01 => ?_⟩
      have k1 := k0.trans k01
      have hl1 := well_up hl0 hl01 k0 W1
      have fin : ∀ (H' : Hp) (l' : Addr) (v' : V) (d' : PyData), Kp (At w) H1 H' → WellAt w l' H' → (l' = l1 ∨ H1 l' = none) → Dq S H' v' d' → Bd 210 d' → lnB d' = true → Q v' H' := fun H' l' v' d' k W hl h b g =>
        q H' l' v' d' (k1.trans k) W (well_up hl1 hl k1 W) h b g
      have h1 := hd.keep (k1.ls sw)
      have hS1 := hS.keep k1 W1
      obtain ⟨m, rfl⟩ : ∃ m : Nat, way = (m : Int) := ⟨way.toNat, by omega⟩
      have fin0 : ∀ (H2 : Hp) (l2 : Addr) (v2 : V) (d2 : PyData), Kp (At w) H1 H2 → WellAt w l2 H2 → (l2 = l1 ∨ H1 l2 = none) → Dq (Old H1) H2 v2 d2 → Bd 160 d2 → lnB d2 = true → Q v2 H2 := fun H2 l2 v2 d2 k2 W2 hl2 e2 b2 g2 =>
        fin H2 l2 v2 d2 k2 W2 hl2 (e2.weak hS1.old) (bd_mono (by omega) d2 b2) g2
      clear k0 k01 hl0 hl01 W0
      refine ⟨_, rfl, S, v, d, "tuple", _, rfl, h1, kit_tup _, _, rfl, ?_⟩
      cases d with
      | int i =>
        refine ifF (fun z => nomatch z) ?_
        have hi : i.natAbs < 2 ^ 190 := hb
        have big : ∀ j : Int, j.natAbs ≤ 2 * i.natAbs + 6 → Bd 210 (.int j) := fun j hj => by
          show j.natAbs < 2 ^ 210
          have : (2 : Nat) ^ 210 = 2 ^ 190 * 1048576 := by decide
          omega
        obtain rfl := h1.intI
        have lg : i.natAbs.log2 < 1920 := by
          by_cases z : i.natAbs = 0
          · rw [z]
            decide
          · exact (Nat.log2_lt z).mpr (Nat.lt_of_lt_of_le hi (Nat.pow_le_pow_right (by decide) (by omega)))
        refine ⟨_, rfl, S, .int i, _, "int", _, rfl, .int i, kit_int _, _, rfl, ifT rfl ?_⟩
        refine ⟨_, rfl, _, _, rfl, rfl, _, rfl, ite2 (fun c => ?_) (fun c => ?_)⟩
        · have m7 : m < 7 := by
            have := of_decide_eq_true c
            omega
          refine ⟨_, rfl, _, _, rfl, rfl, _, rfl, _, _, rfl, rfl, _, rfl, _, _, rfl, rfl, _, rfl, _, _, rfl, rfl, .inr ⟨by decide, by decide⟩, _, rfl, _, _, rfl, rfl, _, rfl, _, _, rfl, rfl, _, rfl, i, rfl, lg, sz63 (by show 7 ≤ 1000; decide), fun t nt => ?_⟩
          have num : ∀ (z : Int) (o : HO), z.natAbs ≤ 2 * i.natAbs + 6 → Q (.int z) (upd H1 t o) := fun z o hz => fin _ l1 _ _ (Kp.new nt) (W1.new nt) (.inl rfl) (.int z) (big z hz) rfl
          match m, m7 with
          | 0, _ => exact ⟨_, rfl, t, _, ((0 : Nat) : Int), _, rfl, rfl, .of upd_same, atI_nat (j := 0) rfl, num _ _ (by omega)⟩
          | 1, _ => exact ⟨_, rfl, t, _, ((1 : Nat) : Int), _, rfl, rfl, .of upd_same, atI_nat (j := 1) rfl, num _ _ (by omega)⟩
          | 2, _ => exact ⟨_, rfl, t, _, ((2 : Nat) : Int), _, rfl, rfl, .of upd_same, atI_nat (j := 2) rfl, num _ _ (by omega)⟩
          | 3, _ => exact ⟨_, rfl, t, _, ((3 : Nat) : Int), _, rfl, rfl, .of upd_same, atI_nat (j := 3) rfl, num _ _ (by omega)⟩
          | 4, _ => exact ⟨_, rfl, t, _, ((4 : Nat) : Int), _, rfl, rfl, .of upd_same, atI_nat (j := 4) rfl, fin _ l1 _ (.bool _) (Kp.new nt) (W1.new nt) (.inl rfl) (.bl _) trivial rfl⟩
          | 5, _ => exact ⟨_, rfl, t, _, ((5 : Nat) : Int), _, rfl, rfl, .of upd_same, atI_nat (j := 5) rfl, num _ _ (by omega)⟩
          | 6, _ => exact ⟨_, rfl, t, _, ((6 : Nat) : Int), _, rfl, rfl, .of upd_same, atI_nat (j := 6) rfl, fin _ l1 _ (.str _) (Kp.new nt) (W1.new nt) (.inl rfl) (.str _) trivial rfl⟩
        · refine ⟨_, rfl, S, .int i, _, "str", _, rfl, .int i, kit_str _, _, rfl, ifF (fun z => nomatch z) ?_⟩
          exact ⟨_, rfl, w, l1, rfl, W1, fin0⟩
      | tuple ds =>
        refine ifT rfl ?_
        obtain ⟨a, xs, rfl, naS, ea, el⟩ := h1.tupI
        have na : ¬ At w a := fun z => naS (by
          rw [show a = w from z]
          exact sw)
        have hlen := el.length
        have bds : BdAll 190 ds := hb
        obtain ⟨h10, hpl⟩ := hp
        refine ⟨_, rfl, _, _, rfl, rfl, _, rfl, ite2 (fun c => ?_) (fun c => ?_)⟩
        · have m7 : m < 7 := by
            have := of_decide_eq_true c
            omega
          have res : ∀ {H' : Hp} {p : Addr} {zs : List V} {dz : List PyData}, Same H1 H' → H' p = some (.tup zs) → DqAll S H1 zs dz → BdAll 210 dz → zs.length ≤ 100 → ∀ {H'' : Hp}, Same H' H'' → Q (.ref p) H'' := fun {H' p zs dz} s e dq b hz {H''} s2 =>
            fin H'' l1 _ (.tuple dz) (Kp.same (s.trans s2)) (W1.same (s.trans s2)) (.inl rfl) (.tup ((hS1.keep (Kp.same (s.trans s2)) (W1.same (s.trans s2))).tup (s2 _ _ e)) (s2 _ _ e) (dq.keep (Kp.same (s.trans s2)))) b (ln_tup dq hz)
          have cutl : ∀ lo hi, (cutV xs lo hi).length ≤ xs.length := fun lo hi => by
            unfold cutV
            rw [List.length_take, List.length_drop]
            omega
          have b210 : BdAll 210 ds := bd_sub bds (by omega) fun d hd => hd
          refine ⟨_, rfl, _, rfl, 1, rfl, _, rfl, ?_⟩
          dsimp only [tNoPart]
          refine sl_by ea fun q1 H2 s1 e1 _ => ?_
          refine cat_by (s1 _ _ ea) e1 (by have := cutl (some (-1)) none; omega) fun p1 H3 s2 e2 _ => ?_
          have s13 := s1.trans s2
          refine ⟨_, rfl, _, rfl, ?_⟩
          dsimp only [tNoPart]
          refine sl_by (s13 _ _ ea) fun p2 H4 s4 e4 _ => ?_
          have s14 := s13.trans s4
          refine ⟨_, rfl, 1, rfl, _, rfl, ?_⟩
          refine sl_by (s14 _ _ ea) fun p3 H5 s5 e5 _ => ?_
          have s15 := s14.trans s5
          refine ⟨_, rfl, a, xs, rfl, .of (s15 _ _ ea), fun p4 np4 => ?_⟩
          have s6 : Same H5 (upd H5 p4 (.tup xs.reverse)) := same_new np4
          have e6 : (upd H5 p4 (.tup xs.reverse)) p4 = some (.tup xs.reverse) := upd_same
          generalize upd H5 p4 (.tup xs.reverse) = H6 at s6 e6 ⊢
          have s16 := s15.trans s6
          refine ⟨_, rfl, a, xs, rfl, .inr (.of (s16 _ _ ea)), fun p5 np5 => ?_⟩
          have s7 : Same H6 (upd H6 p5 (.lst xs)) := same_new np5
          have e7 : (upd H6 p5 (.lst xs)) p5 = some (.lst xs) := upd_same
          generalize upd H6 p5 (.lst xs) = H7 at s7 e7 ⊢
          have s17 := s16.trans s7
          have p50 := s16.free np5
          refine ⟨_, rfl, sz63 (by show 1 ≤ 1000; decide), fun p6 np6 => ?_⟩
          have s8 : Same H7 (upd H7 p6 (.tup [.ref a])) := same_new np6
          have e8 : (upd H7 p6 (.tup [.ref a])) p6 = some (.tup [.ref a]) := upd_same
          generalize upd H7 p6 (.tup [.ref a]) = H8 at s8 e8 ⊢
          have s18 := s17.trans s8
          refine ⟨_, rfl, _, rfl, cat_by (s18 _ _ ea) (s18 _ _ ea) (by omega) fun p7 H9 s9 e9 _ => ⟨sz63 (by show 7 ≤ 1000; decide), fun t nt => ?_⟩⟩
          have s19 := s18.trans s9
          have sT : ∀ o, Same H9 (upd H9 t o) := fun o => same_new nt
          match m, m7 with
          | 0, _ =>
            obtain ⟨es, g1, g2, g3⟩ := dqAll_cut el (some (-1)) none
            exact ⟨_, rfl, t, _, ((0 : Nat) : Int), _, rfl, rfl, .of upd_same, atI_nat (j := 0) rfl, res s13 e2 (el.app g1) (bd_app b210 (bd_sub bds (by omega) g3)) (by rw [List.length_append]; have := cutl (some (-1)) none; omega) ((((((s4.trans s5).trans s6).trans s7).trans s8).trans s9).trans (sT _))⟩
          | 1, _ =>
            obtain ⟨es, g1, g2, g3⟩ := dqAll_cut el (some 1) none
            exact ⟨_, rfl, t, _, ((1 : Nat) : Int), _, rfl, rfl, .of upd_same, atI_nat (j := 1) rfl, res s14 e4 g1 (bd_sub bds (by omega) g3) (by have := cutl (some 1) none; omega) (((((s5.trans s6).trans s7).trans s8).trans s9).trans (sT _))⟩
          | 2, _ =>
            obtain ⟨es, g1, g2, g3⟩ := dqAll_cut el none (some (-1))
            exact ⟨_, rfl, t, _, ((2 : Nat) : Int), _, rfl, rfl, .of upd_same, atI_nat (j := 2) rfl, res s15 e5 g1 (bd_sub bds (by omega) g3) (by have := cutl none (some (-1)); omega) ((((s6.trans s7).trans s8).trans s9).trans (sT _))⟩
          | 3, _ => exact ⟨_, rfl, t, _, ((3 : Nat) : Int), _, rfl, rfl, .of upd_same, atI_nat (j := 3) rfl, res s16 e6 (dqAll_rev el) (bd_sub bds (by omega) fun d hd => List.mem_reverse.mp hd) (by rw [List.length_reverse]; omega) (((s7.trans s8).trans s9).trans (sT _))⟩
          | 4, _ =>
            refine ⟨_, rfl, t, _, ((4 : Nat) : Int), _, rfl, rfl, .of upd_same, atI_nat (j := 4) rfl, ?_⟩
            have sZ := s19.trans (sT (.tup [.ref p1, .ref p2, .ref p3, .ref p4, .ref p5, .ref p6, .ref p7]))
            exact fin _ l1 _ (.list ds) (Kp.same sZ) (W1.same sZ) (.inl rfl) (.lst (hS1.new p50) (((s8.trans s9).trans (sT _)) _ _ e7) (el.keep (Kp.same sZ))) b210 rfl
          | 5, _ => exact ⟨_, rfl, t, _, ((5 : Nat) : Int), _, rfl, rfl, .of upd_same, atI_nat (j := 5) rfl, res s18 e8 (.cons h1 .nil) ⟨bd_mono (by omega) _ hb, trivial⟩ (by show 1 ≤ 100; decide) (s9.trans (sT _))⟩
          | 6, _ => exact ⟨_, rfl, t, _, ((6 : Nat) : Int), _, rfl, rfl, .of upd_same, atI_nat (j := 6) rfl, res s19 e9 (el.app el) (bd_app b210 b210) (by rw [List.length_append]; omega) (sT _)⟩
        · refine ⟨_, rfl, S, .ref a, _, "int", _, rfl, h1, kit_int _, _, rfl, ifF (fun z => nomatch z) ?_⟩
          refine ⟨_, rfl, S, .ref a, _, "str", _, rfl, h1, kit_str _, _, rfl, ifF (fun z => nomatch z) ?_⟩
          exact ⟨_, rfl, w, l1, rfl, W1, fin0⟩
      | _ => exact hp.elim
    · intro N' hN
      refine ⟨_, rfl, S, v, d, "tuple", _, rfl, hd, kit_tup _, _, rfl, ?_⟩
      cases d with
      | int i => exact ifF (fun z => nomatch z) (hN _ _ ⟨l, rfl, .refl _, hW, .inl rfl⟩)
      | tuple ds =>
        refine ifT rfl ?_
        obtain ⟨a, xs, rfl, naS, ea, el⟩ := hd.tupI
        have na : ¬ At w a := fun z => naS (by
          rw [show a = w from z]
          exact sw)
        have hlen := el.length
        have bds : BdAll 190 ds := hb
        obtain ⟨h10, hpl⟩ := hp
        refine ⟨_, rfl, a, xs, rfl, .inr (.of ea), _, _, rfl, rfl, _, rfl, ite2 (fun c => ?_) (fun c => hN _ _ ⟨l, rfl, .refl _, hW, .inl rfl⟩)⟩
        refine ⟨_, rfl, w, l, _, rfl, by omega, by omega, hW, fun H1 y l1 y0 y1 k1 W1 hl1 => ⟨_, _, rfl, rfl, _, rfl, ite2 (fun c2 => ?_) (fun c2 => hN _ _ ⟨l1, rfl, k1, W1, hl1⟩)⟩⟩
        have x0 : 0 < xs.length := by
          have := of_decide_eq_true c
          omega
        have hS1 := hS.keep k1 W1
        have ea1 := k1 _ _ na ea
        have el1 := el.keep (k1.ls sw)
        refine ⟨_, rfl, _, rfl, a, xs, rfl, .inr (.of ea1), w, l1, _, rfl, by omega, by omega, W1, fun H4 i l4 y2 y3 k4 W4 hl4 => ?_⟩
        obtain ⟨i, rfl⟩ : ∃ j : Nat, i = (j : Int) := ⟨i.toNat, by omega⟩
        have hi : i < xs.length := by omega
        have ea4 := k4 _ _ na ea1
        have el4 := el1.keep (k4.ls sw)
        have hS4 := hS1.keep k4 W4
        have fin4 : ∀ (H' : Hp) (l' : Addr) (v' : V) (d' : PyData), Kp (At w) H4 H' → WellAt w l' H' → (l' = l4 ∨ H4 l' = none) → Dq S H' v' d' → Bd 210 d' → lnB d' = true → Q v' H' := fun H' l' v' d' k W hl h b g =>
          q H' l' v' d' ((k1.trans k4).trans k) W (well_up hl1 (well_up hl4 hl k4 W) k1 W) h b g
        have finT : ∀ (H5 : Hp) (l5 : Addr), Kp (At w) H4 H5 → WellAt w l5 H5 → (l5 = l4 ∨ H4 l5 = none) → ∀ (p : Addr) (H' : Hp) (zs : List V) (dz : List PyData), Same H5 H' → H' p = some (.tup zs) → DqAll S H5 zs dz → BdAll 210 dz → zs.length ≤ 100 → Q (.ref p) H' := fun H5 l5 k W hl p H' zs dz s e dq b hz =>
          fin4 H' l5 _ (.tuple dz) (k.trans (Kp.same s)) (W.same s) hl (.tup ((hS4.keep (k.trans (Kp.same s)) (W.same s)).tup e) e (dq.keep (Kp.same s))) b (ln_tup dq hz)
        have ei : ((i : Int) + 1) = ((i + 1 : Nat) : Int) := by omega
        have tk := dqAll_take i el4
        have dr1 := dqAll_drop (i + 1) el4
        have btk : BdAll 210 (ds.take i) := bd_sub bds (by omega) fun d hd => List.mem_of_mem_take hd
        have bdr1 : BdAll 210 (ds.drop (i + 1)) := bd_sub bds (by omega) fun d hd => List.mem_of_mem_drop hd
        refine ⟨_, rfl, _, rfl, _, rfl, sl_by ea4 fun p5 H5 s5 e5 _ => ?_⟩
        rw [cut_to (Nat.le_of_lt hi)] at e5
        have ex : xs[i]? = some xs[i] := List.getElem?_eq_getElem hi
        obtain ⟨di, hdi, dqi⟩ := el4.at ex
        refine ⟨_, rfl, _, rfl, _, rfl, a, xs, (i : Int), _, rfl, rfl, .of (s5 _ _ ea4), atI_nat ex, S, w, l4, xs[i], di, rfl, sw, hS4.keep (Kp.same s5) (W4.same s5), W4.same s5, dqi.keep (Kp.same s5), hpl di (List.mem_of_getElem? hdi), bd_of bds hdi, fun H6 l6 v6 d6 k6 W6 hl6 dq6 b6 _ => ⟨sz63 (by show 1 ≤ 1000; decide), fun t nt => ?_⟩⟩
        have k46 : Kp (At w) H4 H6 := (Kp.same s5).trans k6
        have hl46 : l6 = l4 ∨ H4 l6 = none := hl6.imp id s5.free
        have e5' : H6 p5 = some (.tup (xs.take i)) := k6 _ _ ((W4.same s5).notTup e5) e5
        refine cat_by (same_new nt _ _ e5') upd_same (by rw [List.length_take]; simp; omega) fun p7 H7 s7 e7 _ => ⟨_, rfl, _, rfl, _, _, rfl, rfl, _, rfl, ?_⟩
        dsimp only [tNoPart]
        have s67 := (same_new (o := .tup [v6]) nt).trans s7
        refine sl_by (s67 _ _ (k46 _ _ na ea4)) fun p8 H8 s8 e8 _ => ?_
        rw [ei, cut_from (by omega)] at e8
        refine cat_by (s8 _ _ e7) e8 (by rw [List.length_append, List.length_take, List.length_drop]; simp; omega) fun p9 H9 s9 e9 _ => ?_
        exact finT H6 l6 k46 W6 hl46 p9 H9 _ _ ((s67.trans s8).trans s9) e9 (((tk.keep (k46.ls sw)).app (.cons dq6 .nil)).app (dr1.keep (k46.ls sw))) (bd_app (bd_app btk ⟨b6, trivial⟩) bdr1) (by simp only [List.length_append, List.length_take, List.length_drop, List.length_reverse, List.length_cons, List.length_nil]; omega)
      | _ => exact hp.elim
/-- at any depth -/
theorem ok_bent {f : Addr} {fd : FuncData} (F : Fun K "_law_bent" "_law_bent" s_law_bent f fd) (M : Mb mg) (g : mg "_law_bent" = some (.ref f)) (kp : PySem.W.keepIn K (.ref f) = true) (b : Binds K fd ["well", "thing"] []) (Dlaw_draw : Df P w K mg base 1 "_law_draw" ["well", "limit"] spPickL)
    (Dlaw_odd : Df P w K mg base 3 "_law_odd" ["well"] spOdd) : ∀ D : Nat, FnOk P w K mg base CX0 (5 + D) f fd ["well", "thing"] (spBent D)
  | 0 => ⟨fun vs H Q E ⟨_, _, _, _, _, _, _, _, _, _, z, _⟩ => z.elim, fun A outer s H args us vs Q E _ _ _ _ ⟨_, _, _, _, _, _, _, _, _, _, z, _⟩ => z.elim⟩
  | D + 1 => ok_bentS F M Dlaw_draw Dlaw_odd ⟨f, fd, g, kp, b, ok_bent F M g kp b Dlaw_draw Dlaw_odd D⟩
end
end Kx
/-! A list compared with [] by !=. -/
namespace Bw
open PySem PySem.Spec PyProof.Rows L2
theorem op_neNil {X : Cx} (hu : X.A.units + 64 < cLine) : OpR X (compareOp .NotEq) (rNil X.K true) := by
  intro pins s σ H x y v u Q I rx ry h
  obtain ⟨a, b, xs, rfl, rfl, ha, hb, q⟩ := h
  obtain rfl : v = Value.ref a := rx
  obtain rfl : u = Value.ref b := ry
  obtain ⟨its, rv, p1, _⟩ := I.list ha
  obtain ⟨its2, rv2, p2, _⟩ := I.list hb
  cases rv2
  cases xs with
  | nil =>
    cases rv
    exact SeqAt.RcNeAt.lists (e := fun _ => true) p1.isList p2.isList rfl (by omega) (fun j h1 _ => absurd h1 (Nat.not_lt_zero j)) _ _ _ _ ⟨.bl false, H, I, rfl, q⟩
  | cons z zs =>
    cases rv with
    | cons r t => exact SeqAt.RcNeAt.lists_lengths p1.isList p2.isList (by simp) (by omega) _ _ _ _ ⟨.bl true, H, I, rfl, q⟩
theorem op_neNilK {X : Cx} {K : PySem.W.Frag} (h : X.K = K) (hu : X.A.units + 64 < cLine) : OpR X (compareOp .NotEq) (rNil K true) := by
  subst h
  exact op_neNil hu
end Bw
/-! The law looks at squares and walks itself (second family). -/
namespace Kx
open PySem PySem.Spec PyProof.Rows L2 Bw
abbrev s_law_is_fracs : Stmt := topS 52
abbrev n_law_is_fracs : List Str := ["thing", "size", "each"]
theorem c_law_is_fracs : FnScope n_law_is_fracs ["thing", "size"] (defScope s_law_is_fracs) :=
  ⟨rfl, rfl, rfl, by decide +kernel, rfl, by decide +kernel, by decide +kernel⟩

abbrev s_law_is_square : Stmt := topS 53
abbrev n_law_is_square : List Str := ["thing", "each"]
theorem c_law_is_square : FnScope n_law_is_square ["thing"] (defScope s_law_is_square) :=
  ⟨rfl, rfl, rfl, by decide +kernel, rfl, by decide +kernel, by decide +kernel⟩

abbrev s_law_reached : Stmt := topS 54
abbrev n_law_reached : List Str := ["square", "here", "found", "turn", "at", "k"]
theorem c_law_reached : FnScope n_law_reached ["square", "here"] (defScope s_law_reached) :=
  ⟨rfl, rfl, rfl, by decide +kernel, rfl, by decide +kernel, by decide +kernel⟩

/-- a tuple of so many fractions -/
def isRowQ (n : Nat) : PyData → Bool
  | .tuple ds => decide (ds.length = n) && ds.all isFr
  | _ => false
/-- so many such -/
def isTabQ (n : Nat) : PyData → Bool
  | .tuple ds => decide (ds.length = n) && ds.all (isRowQ n)
  | _ => false
def entD : PyData → Nat → PyData
  | .tuple ds, i => ds.getD i .none
  | _, _ => .none
def qOf : PyData → Rat
  | .tuple [.int a, .int b] => Rat.divInt a b
  | _ => 0
theorem qOf_fr (q : Rat) : qOf (frD q) = q := Bq.num_over q
theorem isRowQ_iff {n : Nat} {d : PyData} : isRowQ n d = true ↔ d = rowD ((List.range n).map fun j => qOf (entD d j)) := by
  constructor
  · intro h
    cases d with
    | tuple ds =>
      have h' : (decide (ds.length = n) && ds.all isFr) = true := h
      rw [Bool.and_eq_true, decide_eq_true_iff, List.all_eq_true] at h'
      show _ = PyData.tuple _
      congr 1
      refine List.ext_getElem? fun j => ?_
      rw [List.map_map, List.getElem?_map]
      by_cases c : j < n
      · rw [List.getElem?_range c]
        have e : ds[j]? = some (ds[j]'(by omega)) := List.getElem?_eq_getElem (by omega)
        have m := h'.2 _ (List.mem_of_getElem? e)
        obtain ⟨q, hq⟩ := isFr_iff.mp m
        rw [hq] at e
        rw [e]
        show _ = some (frD (qOf (ds.getD j .none)))
        rw [List.getD_eq_getElem?_getD, e]
        show _ = some (frD (qOf (frD q)))
        rw [qOf_fr]
      · rw [List.getElem?_eq_none (by omega), List.getElem?_eq_none (by rw [List.length_range]; omega)]
        rfl
    | _ => exact absurd h Bool.false_ne_true
  · intro h
    rw [h]
    show (decide (_ = n) && List.all _ isFr) = true
    rw [Bool.and_eq_true, decide_eq_true_iff, List.all_eq_true, List.length_map, List.length_map, List.length_range]
    refine ⟨rfl, fun d hd => ?_⟩
    obtain ⟨q, _, rfl⟩ := List.mem_map.mp hd
    exact isFr_iff.mpr ⟨q, rfl⟩
theorem isTabQ_iff {n : Nat} {d : PyData} : isTabQ n d = true ↔ d = tabD (tabF n fun i j => qOf (entD (entD d i) j)) := by
  constructor
  · intro h
    cases d with
    | tuple ds =>
      have h' : (decide (ds.length = n) && ds.all (isRowQ n)) = true := h
      rw [Bool.and_eq_true, decide_eq_true_iff, List.all_eq_true] at h'
      show _ = PyData.tuple _
      congr 1
      refine List.ext_getElem? fun i => ?_
      unfold tabF
      rw [List.map_map, List.getElem?_map]
      by_cases c : i < n
      · rw [List.getElem?_range c]
        have e : ds[i]? = some (ds[i]'(by omega)) := List.getElem?_eq_getElem (by omega)
        have m := isRowQ_iff.mp (h'.2 _ (List.mem_of_getElem? e))
        generalize ds[i]'(by omega) = di at e m
        rw [e]
        show some di = some (rowD ((List.range n).map fun j => qOf (entD (ds.getD i .none) j)))
        rw [List.getD_eq_getElem?_getD, e]
        exact congrArg some m
      · rw [List.getElem?_eq_none (by omega), List.getElem?_eq_none (by rw [List.length_range]; omega)]
        rfl
    | _ => exact absurd h Bool.false_ne_true
  · intro h
    rw [h]
    unfold tabF
    show (decide (_ = n) && List.all _ (isRowQ n)) = true
    rw [Bool.and_eq_true, decide_eq_true_iff, List.all_eq_true, List.length_map, List.length_map, List.length_range]
    refine ⟨rfl, fun d hd => ?_⟩
    obtain ⟨r, hr, rfl⟩ := List.mem_map.mp hd
    obtain ⟨i, _, rfl⟩ := List.mem_map.mp hr
    show (decide (_ = n) && List.all _ isFr) = true
    rw [Bool.and_eq_true, decide_eq_true_iff, List.all_eq_true, List.length_map, List.length_map, List.length_range]
    refine ⟨rfl, fun d hd => ?_⟩
    obtain ⟨q, _, rfl⟩ := List.mem_map.mp hd
    exact isFr_iff.mpr ⟨q, rfl⟩
theorem isTabQ_of {n : Nat} {G : Nat → Nat → Rat} : isTabQ n (tabD (tabF n G)) = true := by
  unfold tabF
  show (decide (_ = n) && List.all _ (isRowQ n)) = true
  rw [Bool.and_eq_true, decide_eq_true_iff, List.all_eq_true, List.length_map, List.length_map, List.length_range]
  refine ⟨rfl, fun d hd => ?_⟩
  obtain ⟨r, hr, rfl⟩ := List.mem_map.mp hd
  obtain ⟨i, _, rfl⟩ := List.mem_map.mp hr
  show (decide (_ = n) && List.all _ isFr) = true
  rw [Bool.and_eq_true, decide_eq_true_iff, List.all_eq_true, List.length_map, List.length_map, List.length_range]
  refine ⟨rfl, fun d hd => ?_⟩
  obtain ⟨q, _, rfl⟩ := List.mem_map.mp hd
  exact isFr_iff.mpr ⟨q, rfl⟩
/-- one to six rows of as many fractions -/
def isSqQ : PyData → Bool
  | .tuple ds => decide (1 ≤ ds.length ∧ ds.length ≤ 6) && ds.all (isRowQ ds.length)
  | _ => false
theorem isSqQ_iff {d : PyData} : isSqQ d = true ↔ ∃ n F, 1 ≤ n ∧ n ≤ 6 ∧ d = tabD (tabF n F) := by
  constructor
  · intro h
    cases d with
    | tuple ds =>
      have h' : (decide (1 ≤ ds.length ∧ ds.length ≤ 6) && ds.all (isRowQ ds.length)) = true := h
      rw [Bool.and_eq_true, decide_eq_true_iff] at h'
      have : isTabQ ds.length (.tuple ds) = true := by
        show (decide (ds.length = ds.length) && ds.all (isRowQ ds.length)) = true
        rw [decide_eq_true rfl, Bool.true_and]
        exact h'.2
      exact ⟨_, _, h'.1.1, h'.1.2, isTabQ_iff.mp this⟩
    | _ => exact absurd h Bool.false_ne_true
  · rintro ⟨n, F, n1, n6, rfl⟩
    have h := isTabQ_of (n := n) (G := F)
    have h' : (decide (((tabF n F).map rowD).length = n) && ((tabF n F).map rowD).all (isRowQ n)) = true := h
    rw [Bool.and_eq_true, decide_eq_true_iff] at h'
    show (decide (1 ≤ ((tabF n F).map rowD).length ∧ ((tabF n F).map rowD).length ≤ 6) && ((tabF n F).map rowD).all (isRowQ ((tabF n F).map rowD).length)) = true
    rw [h'.1, decide_eq_true ⟨n1, n6⟩, Bool.true_and]
    exact h'.2
section
variable {P : Program} {w : World} {K : PySem.W.Frag} {mg : Str → Option Value} {base : Heap}
def spFracs : Sp := fun vs H Q _ => ∃ (W : Addr → Prop) (v : V) (d : PyData) (n : Nat), vs = [v, .int (n : Nat)] ∧ Dq W H v d ∧ Bd 300 d ∧ n ≤ 100 ∧ ∀ H', Same H H' → Q (.bl (isRowQ n d)) H'
theorem ok_lfracs {f : Addr} {fd : FuncData} (F : Fun K "_law_is_fracs" "_law_is_fracs" s_law_is_fracs f fd) (M : Mb mg) (Dlaw_is_row : Df P w K mg base 1 "_law_is_row" ["thing", "size"] spLen) (Dlaw_is_frac : Df P w K mg base 2 "_law_is_frac" ["thing"] (spAskB 300 isFr)) :
    FnOk P w K mg base CX0 3 f fd ["thing", "size"] spFracs := by
  refine F.ok c_law_is_fracs (fun vs H Q E h => ?_) (fun cdv A outer s H vs Q E hr h => ?_)
  · obtain ⟨_, v, d, n, rfl, _⟩ := h
    rfl
  · obtain ⟨W, v, d, n, rfl, hd, bd, n100, q⟩ := h
    have hu := hr.units
    refine ⟨_, (pss_one (ps_ret (pe_and (pe_call Dlaw_is_row.G (hr.mono (by first | decide | omega)) rfl Dlaw_is_row.g Dlaw_is_row.kp Dlaw_is_row.b .nil pass0 (pa_cons (pv 0) (pa_cons (pv 1) pa_nil))) (pe_one (pe_cmpR (op_eqNil hu) (pe_lc (own := [("each", 2)]) rfl c_law_is_fracs.nd (pi_tup (pv 0)) (blkOk_by (own := [("each", 2)]) (N := n_law_is_fracs) (sc := defScope s_law_is_fracs) (by decide +kernel)) (fun _ _ _ _ _ => (pg_name (i := 2) c_law_is_fracs.nd rfl (.inl rfl))) (fun _ _ _ _ _ => (pts_one (pt_not (pt_val (pe_call Dlaw_is_frac.G (hr.mono (by first | decide | omega)) rfl Dlaw_is_frac.g Dlaw_is_frac.kp Dlaw_is_frac.b .nil pass0 (pa_cons (pv 2) pa_nil)))))) (fun _ _ _ _ _ => (pv 2))) (pe_lst pa_nil) (nomark _)))))), ?_⟩
    refine ⟨_, rfl, _, rfl, W, v, d, n, rfl, hd, _, rfl, ?_⟩
    cases hd with
    | tup na ea el =>
      rename_i c zs es
      have zl := el.length
      refine ite2 (fun c0 => ?_) (fun c0 => ?_)
      · have c' : es.length = n := of_decide_eq_true c0
        refine ⟨_, rfl, c, rfl, ⟨zs, .of ea⟩, fun D nD => lc_filt (walk_tup (K := K) (a := c) (xs := zs)) (fun i => ∃ e, es[i]? = some e ∧ isFr e = false) nD (by omega) (fun x _ => rfl) (fun x => rfl)
          (fun H' s' => .of (s' _ _ ea)) (fun i H' x H'' _ _ y => y.1) ?_ ?_⟩
        · rintro j y H2 T hj s2 _ ⟨_, hy⟩ t
          obtain ⟨e, he, dx⟩ := el.at hy
          refine ⟨_, rfl, W, y, e, rfl, dx.keep (Kp.same s2), bd_of bd he, fun H3 s3 => ⟨_, rfl, t _ H3 ?_ s3⟩⟩
          constructor
          · intro z
            exact ⟨e, he, by simpa using z⟩
          · rintro ⟨e', g1, g2⟩
            rw [he] at g1
            obtain rfl := Option.some.inj g1
            rw [g2]
            rfl
        · rintro H2 acc s2 eD hacc
          refine ⟨Nat.zero_le _, fun bN nbN => ?_⟩
          have eb' : (upd H2 bN (.lst [])) D = some (.lst acc) := by rw [upd_ne (ne_of_none eD nbN)]; exact eD
          have eqn : acc.isEmpty = isRowQ n (.tuple es) := by
            show _ = (decide (es.length = n) && es.all isFr)
            rw [decide_eq_true c', Bool.true_and, Bool.eq_iff_iff, List.all_eq_true, List.isEmpty_iff, hacc]
            constructor
            · intro z e he
              obtain ⟨j, hj⟩ := List.mem_iff_getElem?.mp he
              cases hf : isFr e with
              | true => rfl
              | false => exact absurd ⟨e, hj, hf⟩ (z j (by rw [zl]; exact (List.getElem?_eq_some_iff.mp hj).1))
            · rintro z j hj ⟨e, he, hf⟩
              rw [z e (List.mem_of_getElem? he)] at hf
              cases hf
          refine ⟨D, bN, acc, rfl, rfl, .of eb', .of upd_same, ?_⟩
          show Q (.bl acc.isEmpty) _
          rw [eqn]
          exact q _ (s2.trans (same_new nbN))
      · have e2 : isRowQ n (.tuple es) = false := by
          show (decide (es.length = n) && es.all isFr) = false
          rw [decide_eq_false fun z => c0 (decide_eq_true z), Bool.false_and]
        rw [e2] at q
        exact q H (.refl H)
    | _ => exact ifF (fun z => nomatch z) (q H (.refl H))
/-- places with numbers above 0 between them -/
def EdQ (n : Nat) (F : Nat → Nat → Rat) (x y : Nat) : Prop := x < n ∧ y < n ∧ 0 < F x y
def spSq : Sp := fun vs H Q _ => ∃ (W : Addr → Prop) (v : V) (d : PyData), vs = [v] ∧ Dq W H v d ∧ Bd 300 d ∧ ∀ H', Same H H' → Q (.bl (isSqQ d)) H'
theorem ok_lsquare {f : Addr} {fd : FuncData} (F : Fun K "_law_is_square" "_law_is_square" s_law_is_square f fd) (M : Mb mg) (Dlaw_is_fracs : Df P w K mg base 3 "_law_is_fracs" ["thing", "size"] spFracs) :
    FnOk P w K mg base CX0 4 f fd ["thing"] spSq := by
  refine F.ok c_law_is_square (fun vs H Q E h => ?_) (fun cdv A outer s H vs Q E hr h => ?_)
  · obtain ⟨_, v, d, rfl, _⟩ := h
    rfl
  · obtain ⟨W, v, d, rfl, hd, bd, q⟩ := h
    have hu := hr.units
    refine ⟨_, (pss_cons (ps_if (PW.pt (pw_or (pt_not (pt_val (pe_callB call_isD (by rfl) M.isinstance (by decide +kernel) (pa_cons (pv 0) (pa_cons (pe_bltn (v := .ty "tuple") rfl M.tuple (by decide +kernel) rfl) pa_nil))))) (pw_or (pt_cmpR op_lt (pe_callB call_len_seq (by rfl) M.len (by decide +kernel) (pa_cons (pv 0) pa_nil)) pe_int (nomark _)) (pw_or1 (pt_cmpR op_gt (pe_callB call_len_seq (by rfl) M.len (by decide +kernel) (pa_cons (pv 0) pa_nil)) pe_int (nomark _))))))
 (pss_one (ps_ret pe_bl))
 pss_nil)
 (pss_one (ps_ret (pe_cmpR (op_eqNil hu) (pe_lc (own := [("each", 1)]) rfl c_law_is_square.nd (pi_tup (pv 0)) (blkOk_by (own := [("each", 1)]) (N := n_law_is_square) (sc := defScope s_law_is_square) (by decide +kernel)) (fun _ _ _ _ _ => (pg_name (i := 1) c_law_is_square.nd rfl (.inl rfl))) (fun _ _ _ _ _ => (pts_one (pt_not (pt_val (pe_call Dlaw_is_fracs.G (hr.mono (by first | decide | omega)) rfl Dlaw_is_fracs.g Dlaw_is_fracs.kp Dlaw_is_fracs.b .nil pass0 (pa_cons (pv 1) (pa_cons (pe_callB (id := "len") (call_lenK (K := K) rfl) (by rfl) M.len (by decide +kernel) (pa_cons (pv 0) pa_nil)) pa_nil))))))) (fun _ _ _ _ _ => (pv 1))) (pe_lst pa_nil) (nomark _))))), ?_⟩
    refine ⟨_, rfl, W, v, d, "tuple", _, rfl, hd, kit_tup _, _, rfl, ?_⟩
    cases hd with
    | tup na ea el =>
      rename_i c zs es
      have zl := el.length
      have no : ∀ b : Bool, ¬ (1 ≤ es.length ∧ es.length ≤ 6) → isSqQ (.tuple es) = false := fun _ h => by
        show (decide (1 ≤ es.length ∧ es.length ≤ 6) && _) = false
        rw [decide_eq_false h, Bool.false_and]
      refine ifF (fun z => nomatch z) ⟨_, rfl, c, zs, rfl, .inr (.of ea), _, _, rfl, rfl, _, rfl, ite2 (fun c0 => ?_) (fun c0 => ?_)⟩
      · rw [no true (fun h => by have := of_decide_eq_true c0; omega)] at q
        exact q H (.refl H)
      · have l1 : 1 ≤ es.length := by
          have : ¬ ((zs.length : Nat) : Int) < 1 := fun z => c0 (decide_eq_true z)
          omega
        refine ⟨_, rfl, c, zs, rfl, .inr (.of ea), _, _, rfl, rfl, _, rfl, ite2 (fun c1 => ?_) (fun c1 => ?_)⟩
        · rw [no true (fun h => by have := of_decide_eq_true c1; omega)] at q
          exact q H (.refl H)
        · have l6 : es.length ≤ 6 := by
            have : ¬ (6 : Int) < ((zs.length : Nat) : Int) := fun z => c1 (decide_eq_true z)
            omega
          refine ⟨_, rfl, c, rfl, ⟨zs, .of ea⟩, fun D nD => lc_filt (walk_tup (K := K) (a := c) (xs := zs)) (fun i => ∃ e, es[i]? = some e ∧ isRowQ es.length e = false) nD (by omega) (fun x _ => rfl) (fun x => rfl)
            (fun H' s' => .of (s' _ _ ea)) (fun i H' x H'' _ _ y => y.1) ?_ ?_⟩
          · rintro j y H2 T hj s2 _ ⟨_, hy⟩ t
            obtain ⟨e, he, dx⟩ := el.at hy
            refine ⟨_, rfl, _, rfl, c, zs, rfl, .inr (.of (s2 _ _ ea)), W, y, e, es.length, by rw [zl]; rfl, dx.keep (Kp.same s2), bd_of bd he, by omega, fun H3 s3 => ⟨_, rfl, t _ H3 ?_ s3⟩⟩
            constructor
            · intro z
              exact ⟨e, he, by simpa using z⟩
            · rintro ⟨e', g1, g2⟩
              rw [he] at g1
              obtain rfl := Option.some.inj g1
              rw [g2]
              rfl
          · rintro H2 acc s2 eD hacc
            refine ⟨Nat.zero_le _, fun bN nbN => ?_⟩
            have eb' : (upd H2 bN (.lst [])) D = some (.lst acc) := by rw [upd_ne (ne_of_none eD nbN)]; exact eD
            have eqn : acc.isEmpty = isSqQ (.tuple es) := by
              show _ = (decide (1 ≤ es.length ∧ es.length ≤ 6) && es.all (isRowQ es.length))
              rw [decide_eq_true ⟨l1, l6⟩, Bool.true_and, Bool.eq_iff_iff, List.all_eq_true, List.isEmpty_iff, hacc]
              constructor
              · intro z e he
                obtain ⟨j, hj⟩ := List.mem_iff_getElem?.mp he
                cases hf : isRowQ es.length e with
                | true => rfl
                | false => exact absurd ⟨e, hj, hf⟩ (z j (by rw [zl]; exact (List.getElem?_eq_some_iff.mp hj).1))
              · rintro z j hj ⟨e, he, hf⟩
                rw [z e (List.mem_of_getElem? he)] at hf
                cases hf
            refine ⟨D, bN, acc, rfl, rfl, .of eb', .of upd_same, ?_⟩
            show Q (.bl acc.isEmpty) _
            rw [eqn]
            exact q _ (s2.trans (same_new nbN))
    | _ => exact ifT rfl (q H (.refl H))
/-- nothing leads out of some places -/
def ClQ (n : Nat) (F : Nat → Nat → Rat) (S : List Nat) : Prop := ∀ k ∈ S, ∀ y, y < n → 0 < F k y → y ∈ S
theorem inM (x : Nat) : ∀ ks : List Nat, inV (.int (x : Nat)) (nats ks) = decide (x ∈ ks)
  | [] => rfl
  | k :: ks => by
    show (eqV (.int (k : Nat)) (.int (x : Nat)) || inV (.int (x : Nat)) (nats ks)) = _
    rw [inM x ks]
    show (((k : Nat) : Int) == ((x : Nat) : Int) || _) = _
    by_cases c : x = k
    · subst c
      simp
    · have : (((k : Nat) : Int) == ((x : Nat) : Int)) = false := by
        simp
        omega
      rw [this, Bool.false_or]
      by_cases d : x ∈ ks
      · rw [decide_eq_true d, decide_eq_true (List.mem_cons_of_mem _ d)]
      · rw [decide_eq_false d, decide_eq_false fun z => (List.mem_cons.mp z).elim c d]
theorem flat_nats : ∀ ks : List Nat, (nats ks).all flatV = true
  | [] => rfl
  | k :: ks => flat_nats ks
/-- places reached -/
structure RchQ (n : Nat) (F : Nat → Nat → Rat) (here : Nat) (S : List Nat) : Prop where
  nd : S.Nodup
  lt : ∀ x ∈ S, x < n
  h : here ∈ S
  r : ∀ x ∈ S, Reach (EdQ n F) here x
theorem RchQ.len {n here : Nat} {F : Nat → Nat → Rat} {S : List Nat} (h : RchQ n F here S) : S.length ≤ n := (nodup_len n S h.nd h.lt).1
theorem RchQ.snoc {n here y k : Nat} {F : Nat → Nat → Rat} {S : List Nat} (h : RchQ n F here S) (hy : y ∉ S) (yn : y < n) (hk : k ∈ S) (p : 0 < F k y) : RchQ n F here (S ++ [y]) := by
  refine ⟨?_, fun z hz => ?_, List.mem_append_left _ h.h, fun z hz => ?_⟩
  · rw [List.nodup_append]
    exact ⟨h.nd, by simp, fun a ha b hb => by
      rw [List.mem_singleton.mp hb]
      exact fun z => hy (by rw [← z]; exact ha)⟩
  · rcases List.mem_append.mp hz with hz | hz
    · exact h.lt z hz
    · rw [List.mem_singleton.mp hz]
      exact yn
  · rcases List.mem_append.mp hz with hz | hz
    · exact h.r z hz
    · rw [List.mem_singleton.mp hz]
      exact .step (h.r k hk) ⟨h.lt k hk, yn, p⟩
theorem RchQ.all {n here : Nat} {F : Nat → Nat → Rat} {S : List Nat} (h : RchQ n F here S) (c : ClQ n F S) : S.length = n ↔ ∀ j, j < n → Reach (EdQ n F) here j := by
  constructor
  · exact fun e j hj => h.r j ((nodup_len n S h.nd h.lt).2 e j hj)
  · intro g
    have mem : ∀ j, Reach (EdQ n F) here j → j ∈ S := fun j r => by
      induction r with
      | refl => exact h.h
      | step r e ih => exact c _ ih _ e.2.1 e.2.2
    have := List.Nodup.length_le_of_subset (List.nodup_range (n := n)) fun y hy => mem y (g y (List.mem_range.mp hy))
    rw [List.length_range] at this
    have := h.len
    omega
def spReached : Sp := fun vs H Q _ => ∃ (W : Addr → Prop) (v : V) (n here : Nat) (F : Nat → Nat → Rat), vs = [v, .int (here : Nat)] ∧ Dq W H v (tabD (tabF n F)) ∧ n ≤ 6 ∧ here < n ∧
  ∀ (p : Addr) (S : List Nat) (H' : Hp), Same H H' → H' p = some (.lst (nats S)) → S.length ≤ n → (S.length = n ↔ ∀ j, j < n → Reach (EdQ n F) here j) → Q (.ref p) H'
theorem ok_lreached {f : Addr} {fd : FuncData} (F : Fun K "_law_reached" "_law_reached" s_law_reached f fd) (M : Mb mg) : FnOk P w K mg base CX0 1 f fd ["square", "here"] spReached := by
  refine F.ok c_law_reached (fun vs H Q E h => ?_) (fun cdv A outer s H vs Q E hr h => ?_)
  · obtain ⟨_, v, n, here, G, rfl, _⟩ := h
    rfl
  · obtain ⟨W, v, n, here, G, rfl, hd, n6, hn, q⟩ := h
    have hu := hr.units
    refine ⟨_, (pss_cons (ps_set (i := 2) c_law_reached.nd rfl (.inl rfl) (pe_lst (pa_cons (pv 1) pa_nil)))
 (pss_cons (ps_for PassesOwn.never rfl (pi_tup (pv 0)) (pg_name (i := 3) c_law_reached.nd rfl (.inl rfl))
 (pss_one (ps_for PassesOwn.never rfl (pi_range1 (by rfl) M.range (pa_cons (pe_callB call_len_seq (by rfl) M.len (by decide +kernel) (pa_cons (pv 0) pa_nil)) pa_nil)) (pg_name (i := 4) c_law_reached.nd rfl (.inr rfl))
 (pss_one (ps_if (PW.pt (pw_and (pt_cmpR op_notIn_seq (pv 4) (pv 2) (by rfl)) (pw_and1 (pt_cmpR (op_neNil hu) (pe_lc (own := [("k", 5)]) rfl c_law_reached.nd (pi_list (pv 2)) (blkOk_by (own := [("k", 5)]) (N := n_law_reached) (sc := defScope s_law_reached) (by decide +kernel)) (fun _ _ _ _ _ => (pg_name (i := 5) c_law_reached.nd rfl (.inl rfl))) (fun _ _ _ _ _ => (pts_one (pt_cmpR op_gt (pe_ix (ix_tupK (K := K) rfl) (pe_ix (ix_tupK (K := K) rfl) (pe_ix (ix_tupK (K := K) rfl) (pv 0) (pv 5) (fun _ _ => rfl)) (pv 4) (fun _ _ => rfl)) pe_int (fun _ _ => rfl)) pe_int (nomark _)))) (fun _ _ _ _ _ => (pv 5))) (pe_lst pa_nil) (nomark _)))))
 (pss_one (ps_expr (pe_bm PySem.F.plainAttrs_list PySem.F.slot_list_append PySem.F.type_list_append mt_append (pv 2) (pa_cons (pv 4) pa_nil))))
 pss_nil)))))
 (pss_one (ps_ret (pv 2))))), ?_⟩
    obtain ⟨a, xs, rfl, na, ea, el⟩ := hd.tupI
    unfold tabF at el
    have xl : xs.length = n := by
      have := el.length
      simpa using this
    have bat : ∀ {i : Nat}, i < n → ∃ c zz, xs[i]? = some (.ref c) ∧ H c = some (.tup zz) ∧ zz.length = n ∧ ∀ j, j < n → ∃ p, zz[j]? = some (.ref p) ∧ H p = some (.tup [.int (G i j).num, .int (G i j).den]) := fun {i} hin => by
      have e1 : xs[i]? = some (xs[i]'(by omega)) := List.getElem?_eq_getElem (by omega)
      obtain ⟨_, dy⟩ := tab_at el e1
      obtain ⟨c, zz, ec1, nc, ec, ez⟩ := dy.tupI
      rw [ec1] at e1
      have zl : zz.length = n := by
        have := ez.length
        simpa using this
      refine ⟨c, zz, e1, ec, zl, fun j hj => ?_⟩
      have e2 : zz[j]? = some (zz[j]'(by omega)) := List.getElem?_eq_getElem (by omega)
      have dp := (row_at ez e2).2
      generalize zz[j]'(by omega) = v at e2 dp
      obtain ⟨p, rfl, hp⟩ := dq_frA dp
      exact ⟨p, e2, hp⟩
    refine ⟨_, rfl, sz63 (by show 1 ≤ 1000; decide), fun fA nf => ?_⟩
    have s1 : Same H (upd H fA (.lst [V.int (here : Nat)])) := same_new nf
    have e1 : (upd H fA (.lst [V.int (here : Nat)])) fA = some (.lst (nats [here])) := upd_same
    generalize upd H fA (.lst [V.int (here : Nat)]) = H1 at s1 e1 ⊢
    refine ⟨_, rfl, a, rfl, ⟨xs, .of (s1 _ _ ea)⟩, ?_⟩
    refine for_it (walk_tup (K := K) (a := a) (xs := xs)) (fun i σ H' => ∃ S y3 y4, σ = [some (.ref a), some (.int (here : Nat)), some (.ref fA), y3, y4, none] ∧ Same H H' ∧ H' fA = some (.lst (nats S)) ∧ RchQ n G here S ∧ (i + 1 ≤ S.length ∨ ClQ n G S))
      ⟨[here], _, _, rfl, s1, e1, ⟨by simp, fun x hx => by rw [List.mem_singleton.mp hx]; exact hn, List.mem_singleton.mpr rfl, fun x hx => by rw [List.mem_singleton.mp hx]; exact .refl⟩, .inl (by simp)⟩ (fun i σ H' _ ⟨_, _, _, _, s1, _⟩ => .of (s1 _ _ ea)) ?_ ?_
    · clear s1 e1
      rintro i x σ _ H2 hi ⟨S0, y3, y4, rfl, s2, eF2, rq2, pr2⟩ ⟨rfl, hx⟩
      refine ⟨_, rfl, a, xs, rfl, .inr (.of (s2 _ _ ea)), _, rfl, by omega, by omega, ?_⟩
      rw [xl]
      refine for_range (lo := 0) (n := n) (fun j σ H' => ∃ T y4, σ = [some (.ref a), some (.int (here : Nat)), some (.ref fA), some x, y4, none] ∧ Same H H' ∧ H' fA = some (.lst (nats (S0 ++ T))) ∧ RchQ n G here (S0 ++ T) ∧ (ClQ n G S0 → T = []) ∧ ∀ y, y < j → (∃ k ∈ S0, 0 < G k y) → y ∈ S0 ++ T)
        ⟨[], _, rfl, s2, by rw [List.append_nil]; exact eF2, by rw [List.append_nil]; exact rq2, fun _ => rfl, fun y hy => absurd hy (Nat.not_lt_zero y)⟩ ?_ ?_
      · clear s2 eF2
        rintro j σ H3 hj ⟨T, y4', rfl, s3, eF3, rq3, cl3, up3⟩
        have e0 : (0 : Int) + ((j : Nat) : Int) = ((j : Nat) : Int) := by omega
        rw [e0]
        have l3 := rq3.len
        have stay : (∀ k ∈ S0, 0 < G k j → j ∈ S0 ++ T) → ∀ H', Same H3 H' → ∃ T' y4'', [some (V.ref a), some (.int (here : Nat)), some (.ref fA), some x, some (V.int (j : Nat)), none] = [some (.ref a), some (.int (here : Nat)), some (.ref fA), some x, y4'', none] ∧ Same H H' ∧ H' fA = some (.lst (nats (S0 ++ T'))) ∧ RchQ n G here (S0 ++ T') ∧ (ClQ n G S0 → T' = []) ∧ ∀ y, y < j + 1 → (∃ k ∈ S0, 0 < G k y) → y ∈ S0 ++ T' := fun h H' s =>
          ⟨T, _, rfl, s3.trans s, s _ _ eF3, rq3, cl3, fun y hy g => by
            by_cases z : y = j
            · rw [z]
              obtain ⟨k, hk, p⟩ := g
              rw [z] at p
              exact h k hk p
            · exact up3 y (by omega) g⟩
        refine ⟨_, rfl, _, rfl, fA, nats (S0 ++ T), rfl, .inl (.of eF3), rfl, flat_nats _, _, rfl, ite2 (fun c0 => ?_) (fun c0 => ?_)⟩
        · have nj : j ∉ S0 ++ T := by
            rw [if_pos rfl, inM] at c0
            simpa using c0
          refine ⟨_, rfl, fA, rfl, ⟨_, .of eF3⟩, fun D nD => lc_filt (walk_list (K := K) (a := fA) (xs := nats (S0 ++ T))) (fun i => ∃ k, (S0 ++ T)[i]? = some k ∧ 0 < G k j) nD (by rw [nats_len]; omega) (fun x _ => rfl) (fun x => rfl)
            (fun H' s' => .of (s' _ _ eF3)) (fun i H' x H'' _ _ y => y.1) ?_ ?_⟩
          · rintro m y H4 U hm s4 _ ⟨_, hy⟩ t
            obtain ⟨kk, hk, rfl⟩ := nats_get hy
            have kn := rq3.lt kk (List.mem_of_getElem? hk)
            obtain ⟨c, zz, ec1, ec, zl, ezz⟩ := bat kn
            obtain ⟨p, ep, hp⟩ := ezz j hj
            have s34 := s3.trans s4
            refine ⟨_, rfl, _, rfl, a, xs, (kk : Int), _, rfl, rfl, .of (s34 _ _ ea), atI_nat ec1, _, rfl, c, zz, (j : Int), _, rfl, rfl, .of (s34 _ _ ec), atI_nat ep, p, _, 0, _, rfl, rfl, .of (s34 _ _ hp), rfl, _, _, rfl, rfl, _, rfl, t _ H4 ?_ (.refl _)⟩
            constructor
            · exact fun z => ⟨kk, hk, Bq.num_pos.mp (of_decide_eq_true z)⟩
            · rintro ⟨k', g1, g2⟩
              rw [hk] at g1
              obtain rfl := Option.some.inj g1
              exact decide_eq_true (Bq.num_pos.mpr g2)
          · rintro H4 acc s4 eD hacc
            refine ⟨Nat.zero_le _, fun b nb => ?_⟩
            have s5 : Same H3 (upd H4 b (.lst [])) := s4.trans (same_new nb)
            have eb : (upd H4 b (.lst [])) D = some (.lst acc) := same_new nb _ _ eD
            refine ⟨D, b, acc, rfl, rfl, .of eb, .of upd_same, _, rfl, ite2 (fun c1 => ?_) (fun c1 => ?_)⟩
            · have ne : acc ≠ [] := fun z => by
                rw [z] at c1
                simp at c1
              obtain ⟨m, kk, hk, p⟩ : ∃ m k, (S0 ++ T)[m]? = some k ∧ 0 < G k j := Classical.byContradiction fun z => ne (hacc.mpr fun i hi ⟨k, h1, h2⟩ => z ⟨i, k, h1, h2⟩)
              have km := List.mem_of_getElem? hk
              have eF5 := s5 _ _ eF3
              refine ⟨_, rfl, .inl ⟨rfl, _, .of eF5⟩, _, rfl, fA, _, _, rfl, rfl, eF5, by rw [nats_len]; exact sz63' (by omega), ?_⟩
              have eK : nats (S0 ++ T) ++ [.int (j : Nat)] = nats (S0 ++ (T ++ [j])) := by
                unfold nats
                rw [← List.append_assoc, List.map_append (l₂ := [j])]
                rfl
              rw [eK]
              refine ⟨T ++ [j], _, rfl, same_mut (s3.trans s5) nf, upd_same, by rw [← List.append_assoc]; exact rq3.snoc nj hj km p, fun cl => ?_, fun y hy g => ?_⟩
              · have t0 := cl3 cl
                rw [t0, List.append_nil] at km nj
                exact absurd (cl kk km j hj p) nj
              · rw [← List.append_assoc]
                by_cases z : y = j
                · rw [z]
                  exact List.mem_append_right _ (List.mem_singleton.mpr rfl)
                · exact List.mem_append_left _ (up3 y (by omega) g)
            · have e : acc = [] := by
                cases acc with
                | nil => rfl
                | cons x t => simp at c1
              refine stay (fun k hk p => ?_) _ s5
              obtain ⟨m, hm⟩ := List.mem_iff_getElem?.mp (List.mem_append_left T hk)
              exact absurd ⟨k, hm, p⟩ (hacc.mp e m (by rw [nats_len]; exact (List.getElem?_eq_some_iff.mp hm).1))
        · have yj : j ∈ S0 ++ T := by
            rw [if_pos rfl, inM] at c0
            exact Classical.byContradiction fun z => c0 (by rw [decide_eq_false z]; rfl)
          exact stay (fun _ _ _ => yj) _ (.refl _)
      · clear s2 eF2
        rintro σ H3 ⟨T, y4', rfl, s3, eF3, rq3, cl3, up3⟩
        refine ⟨S0 ++ T, _, _, rfl, s3, eF3, rq3, ?_⟩
        by_cases z : T = []
        · right
          subst z
          rw [List.append_nil]
          intro k hk y hy p
          have := up3 y hy ⟨k, hk, p⟩
          rwa [List.append_nil] at this
        · rcases pr2 with g | g
          · left
            have : 0 < T.length := List.length_pos_iff.mpr z
            rw [List.length_append]
            omega
          · exact absurd (cl3 g) z
    · rintro σ H2 ⟨S, y3, y4, rfl, s2, eF2, rq2, pr2⟩
      have cl : ClQ n G S := by
        rcases pr2 with g | g
        · have := rq2.len
          omega
        · exact g
      exact ⟨_, rfl, q fA S H2 s2 eF2 rq2.len (rq2.all cl)⟩
end
end Kx
/-! Drawn glasses (second family of drawings). -/
namespace Kx
open PySem PySem.Spec PyProof.Rows L2 Bw
abbrev s_law_marks : Stmt := topS 45
abbrev n_law_marks : List Str := ["well", "size", "top", "order", "found", "at"]
theorem c_law_marks : FnScope n_law_marks ["well", "size", "top"] (defScope s_law_marks) :=
  ⟨rfl, rfl, rfl, by decide +kernel, rfl, by decide +kernel, by decide +kernel⟩

theorem ixNat {n j : Nat} (hj : j < n) : ixN n (j : Int) = some j := by
  unfold ixN
  rw [if_pos (by omega), if_pos (by omega)]
  rfl
theorem nats_set (g : List Nat) (i x : Nat) : (nats g).set i (.int (x : Nat)) = nats (g.set i x) := by
  unfold nats
  rw [List.map_set]
section
variable {P : Program} {w : World} {K : PySem.W.Frag} {mg : Str → Option Value} {base : Heap}
/-- drawn glasses of n places with just t marks -/
def spMarks : Sp := fun vs H Q _ => ∃ (w l : Addr) (n t : Nat), vs = [.ref w, .int (n : Nat), .int (t : Nat)] ∧ 1 ≤ t ∧ t ≤ n ∧ n ≤ 100 ∧ WellAt w l H ∧
  ∀ (H' : Hp) (l' p : Addr) (g : List Nat), Kp (At w) H H' → WellAt w l' H' → (l' = l ∨ H l' = none) → p ≠ w → H' p = some (.tup (nats g)) → g.length = n → (∀ x ∈ g, x < t) → (∀ m, m < t → m ∈ g) → Q (.ref p) H'
theorem ok_lmarks {f : Addr} {fd : FuncData} (F : Fun K "_law_marks" "_law_marks" s_law_marks f fd) (M : Mb mg) (Dlaw_draw : Df P w K mg base 1 "_law_draw" ["well", "limit"] spPickL) (Dlaw_order : Df P w K mg base 2 "_law_order" ["well", "size"] spOrder) : FnOk P w K mg base CX0 3 f fd ["well", "size", "top"] spMarks := by
  refine F.ok c_law_marks (fun vs H Q E h => ?_) (fun cdv A outer s H vs Q E hr h => ?_)
  · obtain ⟨w, l, n, t, rfl, _⟩ := h
    rfl
  · obtain ⟨w, l, n, tp, rfl, t1, tn, n1, hW, q⟩ := h
    refine ⟨_, (pss_cons (ps_par (i := 3) (j := 4) (by rfl) c_law_marks.nd rfl rfl (by decide) rfl rfl (pa_cons (pe_call Dlaw_order.G (hr.mono (by first | decide | omega)) rfl Dlaw_order.g Dlaw_order.kp Dlaw_order.b .nil pass0 (pa_cons (pv 0) (pa_cons (pv 1) pa_nil))) (pa_cons (pe_op op_rep (pe_lst (pa_cons pe_int pa_nil)) (pv 1)) pa_nil)) (by rfl))
 (pss_cons (ps_for PassesOwn.never rfl (pi_range1 (by rfl) M.range (pa_cons (pv 1) pa_nil)) (pg_name (i := 5) c_law_marks.nd rfl (.inl rfl))
 (pss_one (ps_asg (pe_ifExp (pt_cmpR op_lt (pv 5) (pv 2) (nomark _)) (pv 5) (pe_call Dlaw_draw.G (hr.mono (by first | decide | omega)) rfl Dlaw_draw.g Dlaw_draw.kp Dlaw_draw.b .nil pass0 (pa_cons (pv 0) (pa_cons (pv 2) pa_nil)))) (pg_sub (pv 4) (pe_ix ix_list (pv 3) (pv 5) (fun _ _ => rfl)) set_list))))
 (pss_one (ps_ret (pe_callTy call_tuple_of (by rfl) M.tuple (by decide +kernel) (pa_cons (pv 4) pa_nil)))))), ?_⟩
    have up : ∀ {H' H'' : Hp} {a b c : Addr}, (a = l ∨ H a = none) → (b = a ∨ H' b = none) → Kp (At w) H H' → WellAt w b H'' → (b = l ∨ H b = none) := fun {H' H'' a b c} ha hb k W => by
      rcases hb with hb | hb
      · rw [hb]
        exact ha
      · exact .inr (kp_free k hb (by
          obtain ⟨_, _, _, _, e, _⟩ := W
          exact e))
    refine ⟨_, rfl, _, rfl, w, l, n, rfl, n1, hW, fun H1 l1 p u k1 W1 hl1 p0 pw pl eP pu => ?_⟩
    have ul : u.length = n := by
      have := pu.length_eq
      rwa [List.length_range] at this
    have und : u.Nodup := pu.nodup_iff.mpr List.nodup_range
    have ult : ∀ x ∈ u, x < n := fun x hx => List.mem_range.mp (pu.mem_iff.mp hx)
    refine ⟨sz63 (by show 1 ≤ 1000; decide), fun a na => ⟨_, rfl, a, _, _, rfl, rfl, upd_same, by omega, by omega, ?_, fun fA nf => ?_⟩⟩
    · refine sz63 ?_
      show 1 * ((n : Int)).toNat ≤ 1000
      omega
    have en : (List.replicate ((n : Int)).toNat [V.int 0]).flatten = nats (List.replicate n 0) := by
      rw [Int.toNat_natCast]
      unfold nats
      rw [List.map_replicate]
      exact List.flatten_replicate_singleton
    rw [en]
    have h1 : OwnH H (upd H1 a (.lst [.int 0])) w l1 (setO (fun _ => none) p (nats u)) := by
      have nw := W1.ne na
      refine ⟨k1.trans (Kp.new na), W1.new na, fun b xs e => ?_⟩
      by_cases c : b = p
      · subst c
        rw [setO_same] at e
        obtain rfl := Option.some.inj e
        exact ⟨same_new na _ _ eP, p0, pw, pl⟩
      · rw [setO_ne c] at e
        cases e
    have h2 := h1.add (ys := nats (List.replicate n 0)) nf
    have pf : p ≠ fA := h1.ne nf (xs := nats u) setO_same
    have oP : setO (setO (fun _ => none) p (nats u)) fA (nats (List.replicate n 0)) p = some (nats u) := by
      rw [setO_ne pf]
      exact setO_same
    have oF : setO (setO (fun _ => none) p (nats u)) fA (nats (List.replicate n 0)) fA = some (nats (List.replicate n 0)) := setO_same
    generalize upd (upd H1 a (.lst [.int 0])) fA (.lst (nats (List.replicate n 0))) = H2 at h2 ⊢
    generalize setO (setO (fun _ => none) p (nats u)) fA (nats (List.replicate n 0)) = own2 at h2 oP oF
    clear h1 na nf eP p0 pl k1 W1 en
    refine ⟨_, _, rfl, ?_⟩
    refine ⟨_, rfl, _, rfl, by omega, by omega, ?_⟩
    have em : ((n : Nat) : Int).toNat = n := Int.toNat_natCast n
    rw [em]
    refine for_range (lo := 0) (n := n) (fun i σ H' => ∃ l' own g y5, σ = [some (.ref w), some (.int (n : Nat)), some (.int (tp : Nat)), some (.ref p), some (.ref fA), y5] ∧ (l' = l ∨ H l' = none) ∧ OwnH H H' w l' own ∧ own p = some (nats u) ∧ own fA = some (nats g) ∧ g.length = n ∧ (∀ x ∈ g, x < tp) ∧ ∀ j, j < i → j < tp → ∀ k, u[j]? = some k → g[k]? = some j)
      ⟨l1, own2, _, _, rfl, hl1, h2, oP, oF, List.length_replicate, fun x hx => by rw [List.eq_of_mem_replicate hx]; omega, fun j hj => by omega⟩ ?_ ?_
    · clear h2 oP oF own2
      rintro i σ H3 hi ⟨l3, own3, g, y5, rfl, q3, h3, oP, oF, gl, glt, gj⟩
      have e0 : (0 : Int) + ((i : Nat) : Int) = ((i : Nat) : Int) := by omega
      rw [e0]
      have eu : u[i]? = some (u[i]'(by omega)) := List.getElem?_eq_getElem (by omega)
      have ku : u[i]'(by omega) < n := ult _ (List.getElem_mem _)
      generalize hk : u[i]'(by omega) = k at eu ku
      have env : (nats u)[i]? = some (.int (k : Nat)) := by
        unfold nats
        rw [List.getElem?_map, eu]
        rfl
      have fin : ∀ (H4 : Hp) (l4 : Addr) (x : Nat), OwnH H H4 w l4 own3 → (l4 = l ∨ H l4 = none) → x < tp → (i < tp → x = i) → ∃ l' own g' y5', ([some (.ref w), some (.int (n : Nat)), some (.int (tp : Nat)), some (.ref p), some (.ref fA), some (.int (i : Nat))] : L2.St) = [some (.ref w), some (.int (n : Nat)), some (.int (tp : Nat)), some (.ref p), some (.ref fA), y5'] ∧ (l' = l ∨ H l' = none) ∧ OwnH H (upd H4 fA (.lst ((nats g).set k (.int (x : Nat))))) w l' own ∧ own p = some (nats u) ∧ own fA = some (nats g') ∧ g'.length = n ∧ (∀ x ∈ g', x < tp) ∧ ∀ j, j < i + 1 → j < tp → ∀ k, u[j]? = some k → g'[k]? = some j := fun H4 l4 x h4 q4 hx hxi => by
        rw [nats_set]
        refine ⟨l4, setO own3 fA (nats (g.set k x)), g.set k x, _, rfl, q4, h4.set oF, by rw [setO_ne pf]; exact oP, setO_same, by rw [List.length_set]; exact gl, fun y hy => ?_, fun j hj hjt k' hk' => ?_⟩
        · rcases List.mem_or_eq_of_mem_set hy with hy | rfl
          · exact glt y hy
          · exact hx
        · by_cases cj : j = i
          · subst cj
            rw [eu] at hk'
            obtain rfl := Option.some.inj hk'
            rw [List.getElem?_set_self (by omega), hxi hjt]
          · have ne : k ≠ k' := fun z => by
              subst z
              have h1 := (List.getElem?_eq_some_iff.mp hk').1
              have h2 := (List.getElem?_eq_some_iff.mp eu).1
              exact cj ((List.getElem?_inj h1 und).mp (by rw [hk', eu]))
            rw [List.getElem?_set_ne ne]
            exact gj j (by omega) hjt k' hk'
      refine ⟨_, rfl, _, rfl, _, _, rfl, rfl, _, rfl, ite2 (fun c => ?_) (fun c => ?_)⟩
      · have ci : i < tp := by
          have := of_decide_eq_true c
          omega
        refine ⟨_, rfl, _, rfl, _, rfl, _, rfl, p, _, (i : Int), _, rfl, rfl, .of (h3.own _ _ oP).1, atI_nat env, fA, _, _, k, rfl, rfl, (h3.own _ _ oF).1, ixNat (by rw [nats_len]; omega), ?_⟩
        exact fin H3 l3 i h3 q3 ci fun _ => rfl
      · have ci : ¬ i < tp := fun z => c (decide_eq_true (by omega))
        refine ⟨_, rfl, _, rfl, w, l3, _, rfl, by omega, by omega, h3.W, fun H4 d l4 d0 d1 k4 W4 hl4 => ?_⟩
        have h4 := h3.pick k4 W4 hl4
        have q4 := up (c := w) q3 hl4 h3.kp W4
        obtain ⟨x, rfl⟩ : ∃ x : Nat, d = (x : Int) := ⟨d.toNat, by omega⟩
        refine ⟨_, rfl, _, rfl, _, rfl, p, _, (i : Int), _, rfl, rfl, .of (h4.own _ _ oP).1, atI_nat env, fA, _, _, k, rfl, rfl, (h4.own _ _ oF).1, ixNat (by rw [nats_len]; omega), ?_⟩
        exact fin H4 l4 x h4 q4 (by omega) fun z => absurd z ci
    · rintro σ H3 ⟨l3, own3, g, y5, rfl, q3, h3, oP, oF, gl, glt, gj⟩
      refine ⟨_, rfl, fA, _, rfl, .inl ⟨.of (h3.own _ _ oF).1, fun t nt => ?_⟩⟩
      refine q _ l3 t g (h3.kp.trans (Kp.new nt)) (h3.W.new nt) q3 (h3.W.ne nt).1 upd_same gl glt fun m hm => ?_
      have eu : u[m]? = some (u[m]'(by omega)) := List.getElem?_eq_getElem (by omega)
      exact List.mem_of_getElem? (gj m (by omega) hm _ eu)
end
end Kx
set_option exponentiation.threshold 4000
/-! Part 26. zip of two tuples of any lengths; rows of places and their chances. -/
namespace Bw
open PySem PySem.Spec PyProof.Rows L2
theorem walk_zipM {K : PySem.W.Frag} {a b : Addr} {xs ys : List V} {n : Nat} (hx : n ≤ xs.length) (hy : n ≤ ys.length) (he : xs.length ≤ n ∨ ys.length ≤ n) : Walk (RZ.ItzT K a b) n (fun H => SqT K H a xs ∧ SqT K H b ys) (YPair (fun i => xs[i]?) (fun i => ys[i]?)) := by
  refine ⟨fun i _ hi q => ⟨xs, ys, xs[i]'(by omega), ys[i]'(by omega), q.1, q.2, List.getElem?_eq_getElem (by omega), List.getElem?_eq_getElem (by omega)⟩, fun _ q => ⟨xs, ys, q.1, q.2, he⟩, fun i H v H' _ q y => ?_⟩
  obtain ⟨T, x, z, e1, e2, e3, e4, e5⟩ := y
  exact ⟨T, x, z, e1, e2, e3, e4 xs q.1, e5 ys q.2⟩
/-- the steps of a row of places -/
def stq (l : List Nat) : List (Nat × Nat) := l.zip (l.drop 1)
theorem stq_len (l : List Nat) : (stq l).length = l.length - 1 := by
  unfold stq
  rw [List.length_zip, List.length_drop]
  omega
theorem stq_mem {l : List Nat} {p : Nat × Nat} (h : p ∈ stq l) : p.1 ∈ l ∧ p.2 ∈ l := by
  obtain ⟨a, b⟩ := p
  have := List.of_mem_zip h
  exact ⟨this.1, List.mem_of_mem_drop this.2⟩
theorem stq_snoc (b : Nat) : ∀ {l : List Nat}, l ≠ [] → stq (l ++ [b]) = stq l ++ [(l.getLastD 0, b)]
  | [], h => absurd rfl h
  | [a], _ => rfl
  | a :: c :: l, _ => by
    have ih := stq_snoc b (l := c :: l) (by simp)
    show (a, c) :: stq (c :: l ++ [b]) = (a, c) :: (stq (c :: l) ++ _)
    rw [ih]
    rfl
/-- the chance of a row of places, at rest -/
def rqQ (s : Nat → Rat) (g : Nat → Nat → Rat) (l : List Nat) : Rat := s (l.headD 0) * fw g (stq l)
theorem rqQ_one (s : Nat → Rat) (g : Nat → Nat → Rat) (b : Nat) : rqQ s g [b] = s b := by
  unfold rqQ
  show s b * 1 = s b
  grind
theorem rqQ_snoc {s : Nat → Rat} {g : Nat → Nat → Rat} {l : List Nat} (b : Nat) (h : l ≠ []) : rqQ s g (l ++ [b]) = rqQ s g l * g (l.getLastD 0) b := by
  unfold rqQ
  rw [stq_snoc b h, fw_app, fw_one]
  have : (l ++ [b]).headD 0 = l.headD 0 := by
    cases l with
    | nil => exact absurd rfl h
    | cons a l => rfl
  rw [this]
  grind
/-- all rows of so many places -/
def rowsN (n : Nat) : Nat → List (List Nat)
  | 0 => [[]]
  | t + 1 => (rowsN n t).flatMap fun w => (List.range n).map fun j => w ++ [j]
theorem rowsN_mem {n : Nat} : ∀ {t : Nat} {w : List Nat}, w ∈ rowsN n t → w.length = t ∧ ∀ x ∈ w, x < n
  | 0, w, h => by
    rw [rowsN, List.mem_singleton] at h
    rw [h]
    exact ⟨rfl, fun x hx => by simp at hx⟩
  | t + 1, w, h => by
    rw [rowsN, List.mem_flatMap] at h
    obtain ⟨u, hu, h⟩ := h
    obtain ⟨j, hj, rfl⟩ := List.mem_map.mp h
    have ih := rowsN_mem hu
    refine ⟨by rw [List.length_append, ih.1]; rfl, fun x hx => ?_⟩
    rcases List.mem_append.mp hx with hx | hx
    · exact ih.2 x hx
    · rw [List.mem_singleton.mp hx]
      exact List.mem_range.mp hj
theorem rowsN_len (n : Nat) : ∀ t, (rowsN n t).length = n ^ t
  | 0 => rfl
  | t + 1 => by
    have e : ∀ l : List (List Nat), (l.flatMap fun w => (List.range n).map fun j => w ++ [j]).length = l.length * n := fun l => by
      induction l with
      | nil => simp
      | cons a l ih => rw [List.flatMap_cons, List.length_append, ih, List.length_map, List.length_range, List.length_cons, Nat.succ_mul, Nat.add_comm]
    rw [rowsN, e, rowsN_len n t, Nat.pow_succ]
theorem sumQ_flat {α : Type} {f : α → Rat} : ∀ {l : List α} {k : α → List Rat}, (∀ a ∈ l, Bq.sumQ (k a) = f a) → Bq.sumQ (l.flatMap k) = Bq.sumQ (l.map f)
  | [], _, _ => rfl
  | a :: l, k, h => by
    rw [List.flatMap_cons, sumQ_app, List.map_cons, h a List.mem_cons_self, sumQ_flat fun b hb => h b (List.mem_cons_of_mem _ hb), Bq.sumQ]
theorem sumQ_mulL (c : Rat) : ∀ l : List Rat, Bq.sumQ (l.map fun q => c * q) = c * Bq.sumQ l
  | [] => by
    show (0 : Rat) = c * 0
    grind
  | q :: l => by
    rw [List.map_cons, Bq.sumQ, sumQ_mulL c l, Bq.sumQ]
    grind
theorem getLastD_lt {n : Nat} {l : List Nat} (h : l ≠ []) (hl : ∀ x ∈ l, x < n) : l.getLastD 0 < n := by
  cases l with
  | nil => exact absurd rfl h
  | cons a l =>
    have : (a :: l).getLastD 0 = (a :: l).getLast (by simp) := by
      rw [List.getLastD_cons, List.getLast_eq_getLastD]
    rw [this]
    exact hl _ (List.getLast_mem _)
/-- all rows of a length are 1 together -/
theorem rows_one {n : Nat} {s : Nat → Rat} {g : Nat → Nat → Rat} (hs : Bq.sumQ ((List.range n).map s) = 1) (hg : ∀ i, i < n → Bq.sumQ ((List.range n).map (g i)) = 1) : ∀ t, 1 ≤ t → Bq.sumQ ((rowsN n t).map (rqQ s g)) = 1
  | 0, h => by omega
  | 1, _ => by
    have e : (rowsN n 1).map (rqQ s g) = (List.range n).map s := by
      show ((List.flatMap (fun w => (List.range n).map fun j => w ++ [j]) [[]])).map (rqQ s g) = _
      rw [List.flatMap_cons, List.flatMap_nil, List.append_nil, List.map_map]
      exact List.map_congr_left fun j _ => rqQ_one s g j
    rw [e, hs]
  | t + 2, _ => by
    have ih := rows_one hs hg (t + 1) (by omega)
    rw [rowsN, List.map_flatMap, sumQ_flat (f := rqQ s g) fun w hw => ?_, ih]
    obtain ⟨h1, h2⟩ := rowsN_mem hw
    have h3 : w ≠ [] := fun z => by
      rw [z] at h1
      simp at h1
    have e : ((List.range n).map fun j => w ++ [j]).map (rqQ s g) = ((List.range n).map (g (w.getLastD 0))).map fun q => rqQ s g w * q := by
      rw [List.map_map, List.map_map]
      exact List.map_congr_left fun j _ => rqQ_snoc j h3
    rw [e, sumQ_mulL, hg _ (getLastD_lt h3 h2)]
    grind
/-! ### over one number below -/
def nSum : List Nat → Nat
  | [] => 0
  | k :: l => k + nSum l
theorem nSum_app : ∀ l m : List Nat, nSum (l ++ m) = nSum l + nSum m
  | [], m => by simp [nSum]
  | k :: l, m => by
    rw [List.cons_append, nSum, nSum_app l m, nSum]
    omega
theorem sumQ_over (D : Nat) : ∀ l : List Nat, Bq.sumQ (l.map fun k => fQ k / fQ D) = fQ (nSum l) / fQ D
  | [] => by
    show (0 : Rat) = fQ 0 / fQ D
    have : fQ 0 = 0 := rfl
    rw [this, Rat.div_def, Rat.zero_mul]
  | k :: l => by
    rw [List.map_cons, Bq.sumQ, sumQ_over D l, nSum, fQ_add, Rat.div_def, Rat.div_def, Rat.div_def]
    grind
theorem fQ_inj {a b : Nat} (h : fQ a = fQ b) : a = b := by
  have : (a : Rat) = (b : Rat) := h
  exact_mod_cast this
/-- parts of a sum that is 1 over one number below are no larger than this number -/
theorem part_sz {D N : Nat} {ks : List Nat} (d0 : 0 < D) (hD : D < 2 ^ N) (h1 : Bq.sumQ (ks.map fun k => fQ k / fQ D) = 1) :
    (∀ q ∈ ks.map fun k => fQ k / fQ D, Bq.Sz N q) ∧ ∀ i, Bq.Sz N (Bq.sumQ ((ks.map fun k => fQ k / fQ D).take i)) := by
  have e : nSum ks = D := by
    rw [sumQ_over] at h1
    have := fQ_ne d0
    refine fQ_inj ?_
    generalize fQ (nSum ks) = a at *
    generalize fQ D = b at *
    grind
  refine ⟨fun q hq => ?_, fun i => ?_⟩
  · obtain ⟨k, hk, rfl⟩ := List.mem_map.mp hq
    obtain ⟨l, m, rfl⟩ := List.append_of_mem hk
    rw [nSum_app, nSum] at e
    exact fQ_sz (by omega) hD d0
  · rw [← List.map_take, sumQ_over]
    have h2 : nSum ks = nSum (ks.take i) + nSum (ks.drop i) := by rw [← nSum_app, List.take_append_drop]
    exact fQ_sz (by omega) hD d0
/-- numbers multiplied -/
def pP : Nat → (Nat → Nat) → Nat
  | 0, _ => 1
  | n + 1, f => pP n f * f n
theorem pP_dvd {f : Nat → Nat} : ∀ {n i : Nat}, i < n → f i ∣ pP n f
  | 0, _, h => by omega
  | n + 1, i, h => by
    rw [pP]
    by_cases c : i = n
    · rw [c]
      exact Nat.dvd_mul_left _ _
    · exact Nat.dvd_trans (pP_dvd (by omega)) (Nat.dvd_mul_right _ _)
theorem pP_pos {f : Nat → Nat} : ∀ {n : Nat}, (∀ i, i < n → 0 < f i) → 0 < pP n f
  | 0, _ => Nat.one_pos
  | n + 1, h => Nat.mul_pos (pP_pos fun i hi => h i (by omega)) (h n (by omega))
theorem pP_lt {f : Nat → Nat} {b : Nat} : ∀ {n : Nat}, (∀ i, i < n → f i < 2 ^ b) → pP n f ≤ 2 ^ (n * b)
  | 0, _ => by simp [pP]
  | n + 1, h => by
    rw [pP, Nat.succ_mul, Nat.pow_add]
    exact Nat.mul_le_mul (pP_lt fun i hi => h i (by omega)) (Nat.le_of_lt (h n (by omega)))
def fwN (c : Nat → Nat → Nat) : List (Nat × Nat) → Nat
  | [] => 1
  | p :: t => c p.1 p.2 * fwN c t
theorem fw_over {g : Nat → Nat → Rat} {c : Nat → Nat → Nat} {S : Nat} (s0 : 0 < S) : ∀ {l : List (Nat × Nat)}, (∀ p ∈ l, g p.1 p.2 = fQ (c p.1 p.2) / fQ S) → fw g l = fQ (fwN c l) / fQ (S ^ l.length)
  | [], _ => by
    show (1 : Rat) = fQ 1 / fQ 1
    have : fQ 1 = 1 := rfl
    rw [this]
    grind
  | p :: l, h => by
    rw [fw, fw_over s0 fun q hq => h q (List.mem_cons_of_mem _ hq), h p List.mem_cons_self, fwN, fQ_mul, List.length_cons, Nat.pow_succ, fQ_mul]
    have h1 := fQ_ne s0
    have h2 := fQ_ne (Nat.pow_pos (n := l.length) s0)
    generalize fQ (S ^ l.length) = x at *
    generalize fQ S = y at *
    generalize fQ (c p.1 p.2) = u
    generalize fQ (fwN c l) = v
    grind
/-- all rows of a length have their chances over one number below -/
theorem rows_over {n A S t : Nat} {s : Nat → Rat} {g : Nat → Nat → Rat} {a : Nat → Nat} {c : Nat → Nat → Nat} (s0 : 0 < S) (hs : ∀ i, i < n → s i = fQ (a i) / fQ A) (a0 : 0 < A) (hg : ∀ i j, i < n → j < n → g i j = fQ (c i j) / fQ S) (ht : 1 ≤ t) :
    (rowsN n t).map (rqQ s g) = ((rowsN n t).map fun w => a (w.headD 0) * fwN c (stq w)).map fun k => fQ k / fQ (A * S ^ (t - 1)) := by
  rw [List.map_map]
  refine List.map_congr_left fun w hw => ?_
  obtain ⟨h1, h2⟩ := rowsN_mem hw
  have hh : w.headD 0 < n := by
    cases w with
    | nil =>
      simp at h1
      omega
    | cons b w => exact h2 b List.mem_cons_self
  have e := fw_over (g := g) (c := c) s0 (l := stq w) fun p hp => hg _ _ (h2 _ (stq_mem hp).1) (h2 _ (stq_mem hp).2)
  rw [stq_len, h1] at e
  show s (w.headD 0) * fw g (stq w) = fQ (a (w.headD 0) * fwN c (stq w)) / fQ (A * S ^ (t - 1))
  rw [e, hs _ hh, fQ_mul, fQ_mul]
  have h3 := fQ_ne a0
  have h4 := fQ_ne (Nat.pow_pos (n := t - 1) s0)
  generalize fQ (S ^ (t - 1)) = x at *
  generalize fQ A = y at *
  generalize fQ (a (w.headD 0)) = u
  generalize fQ (fwN c (stq w)) = v
  grind
theorem Wk.ch_over {n : Nat} {M : List (List Nat)} (h : Wk n M) {i j : Nat} (hi : i < n) : chQ n (mf M) i j = fQ (mf M i j * (pP n (fun i => sN n (mf M i)) / sN n (mf M i))) / fQ (pP n fun i => sN n (mf M i)) := by
  have s0 := pP_pos (f := fun i => sN n (mf M i)) fun i hi => h.p i hi
  obtain ⟨k, hk⟩ := pP_dvd (f := fun i => sN n (mf M i)) hi
  have hk' : pP n (fun i => sN n (mf M i)) = sN n (mf M i) * k := hk
  rw [hk'] at s0 ⊢
  have r0 := h.p i hi
  have k0 : 0 < k := Nat.pos_of_mul_pos_left s0
  rw [Nat.mul_div_cancel_left _ r0, fQ_mul, fQ_mul]
  unfold chQ
  have h1 := fQ_ne r0
  have h2 := fQ_ne k0
  generalize fQ (mf M i j) = u
  generalize fQ (sN n (mf M i)) = v at *
  generalize fQ k = x at *
  grind
theorem Wk.ch_one {n : Nat} {M : List (List Nat)} (h : Wk n M) {i : Nat} (hi : i < n) : Bq.sumQ ((List.range n).map (chQ n (mf M) i)) = 1 := by
  have h1 := sumQ_div (mf M i) (fQ (sN n (mf M i))) n
  have h2 := fQ_ne (h.p i hi)
  show Bq.sumQ ((List.range n).map fun j => fQ (mf M i j) / fQ (sN n (mf M i))) = 1
  rw [h1]
  grind
theorem Wk.sh_one {n : Nat} {M : List (List Nat)} (h : Wk n M) : Bq.sumQ ((List.range n).map (shQ n M)) = 1 := by
  have h1 := sumQ_div (pN n (mf M)) (fQ (allN n M)) n
  have h2 := fQ_ne h.all_pos
  show Bq.sumQ ((List.range n).map fun j => fQ (pN n (mf M) j) / fQ (allN n M)) = 1
  rw [h1]
  show fQ (allN n M) / fQ (allN n M) = 1
  grind
/-- the chances of all rows of up to three places: 1 together, and none of the sums on the way is long -/
theorem Wk.rows {n t : Nat} {M : List (List Nat)} (h : Wk n M) (t1 : 1 ≤ t) (t3 : t ≤ 3) :
    Bq.sumQ ((rowsN n t).map (rqQ (shQ n M) (chQ n (mf M)))) = 1 ∧ (∀ q ∈ (rowsN n t).map (rqQ (shQ n M) (chQ n (mf M))), Bq.Sz 1100 q) ∧ ∀ i, Bq.Sz 1100 (Bq.sumQ (((rowsN n t).map (rqQ (shQ n M) (chQ n (mf M)))).take i)) := by
  have one := rows_one (n := n) (s := shQ n M) (g := chQ n (mf M)) h.sh_one (fun i hi => h.ch_one hi) t t1
  have s0 := pP_pos (f := fun i => sN n (mf M i)) fun i hi => h.p i hi
  have e := rows_over (n := n) (A := allN n M) (S := pP n fun i => sN n (mf M i)) (t := t) (s := shQ n M) (g := chQ n (mf M)) (a := pN n (mf M)) (c := fun i j => mf M i j * (pP n (fun i => sN n (mf M i)) / sN n (mf M i))) s0 (fun i _ => rfl) h.all_pos (fun i j hi _ => h.ch_over hi) t1
  refine ⟨one, ?_⟩
  rw [e] at one ⊢
  have lt := pP_lt (f := fun i => sN n (mf M i)) (b := 23) (n := n) fun i hi => h.rs_lt hi
  have n6 := h.n6
  have l2 : pP n (fun i => sN n (mf M i)) ≤ 2 ^ 138 := Nat.le_trans lt (Nat.pow_le_pow_right (by decide) (by omega))
  generalize pP n (fun i => sN n (mf M i)) = S at *
  have l3 : S ^ (t - 1) ≤ 2 ^ 276 := by
    refine Nat.le_trans (Nat.pow_le_pow_left l2 (t - 1)) ?_
    rw [← Nat.pow_mul]
    exact Nat.pow_le_pow_right (by decide) (by omega)
  have l4 : allN n M * S ^ (t - 1) < 2 ^ 1100 := by
    refine Nat.lt_of_le_of_lt (Nat.mul_le_mul (Nat.le_of_lt h.all_lt) l3) ?_
    rw [← Nat.pow_add]
    exact Nat.pow_lt_pow_right (by decide) (by decide)
  exact part_sz (Nat.mul_pos h.all_pos (Nat.pow_pos s0)) l4 one
/-- a row's chance is not long -/
theorem Wk.row_sz {n : Nat} {M : List (List Nat)} (h : Wk n M) {l : List Nat} (l0 : l ≠ []) (hl : ∀ x ∈ l, x < n) (l7 : l.length ≤ 7) : Bq.Sz 1000 (rqQ (shQ n M) (chQ n (mf M)) l) := by
  have sz : ∀ {m : List (Nat × Nat)}, (∀ p ∈ m, Bq.Sz 23 (chQ n (mf M) p.1 p.2)) → Bq.Sz (1 + m.length * 23) (fw (chQ n (mf M)) m) := by
    intro m
    induction m with
    | nil =>
      intro _
      rw [fw, List.length_nil, Nat.zero_mul]
      exact ⟨by decide, by decide⟩
    | cons p m ih =>
      intro hp
      have h1 := (hp p List.mem_cons_self).mul (ih fun q hq => hp q (List.mem_cons_of_mem _ hq))
      rw [fw]
      refine h1.mono ?_
      rw [List.length_cons, Nat.succ_mul]
      omega
  have hh : l.headD 0 < n := by
    cases l with
    | nil => exact absurd rfl l0
    | cons b l => exact hl b List.mem_cons_self
  have h1 := sz (m := stq l) fun p hp => fQ_sz (Nat.lt_of_lt_of_le (h.k _ _ (hl _ (stq_mem hp).1) (hl _ (stq_mem hp).2)) (pow_le (by omega))) (h.rs_lt (hl _ (stq_mem hp).1)) (h.p _ (hl _ (stq_mem hp).1))
  rw [stq_len] at h1
  refine ((h.sh_sz hh).mul h1).mono ?_
  have : (l.length - 1) * 23 ≤ 6 * 23 := Nat.mul_le_mul_right _ (by omega)
  omega
end Bw
set_option exponentiation.threshold 4000
/-! Part 28. What is left of a square when places are left out one by one, without what all rows have in common; walks of numbers of any size, how long what comes of them is. Plain mathematics. -/
namespace Bw
theorem sZ_cut {f : Nat → Int} {k : Nat} : ∀ {m : Nat}, k ≤ m → (∀ j, k ≤ j → j < m → f j ≤ 0) → sZ m f ≤ sZ k f
  | 0, h, _ => by
    have : k = 0 := by omega
    rw [this]
    exact Int.le_refl _
  | m + 1, h, hf => by
    by_cases c : k = m + 1
    · rw [c]
      exact Int.le_refl _
    · have h1 := sZ_cut (f := f) (k := k) (m := m) (by omega) fun j a b => hf j a (by omega)
      have h2 := hf m (by omega) (by omega)
      rw [sZ]
      omega
theorem sZ_cut1 {f : Nat → Int} {k j0 : Nat} : ∀ {m : Nat}, k ≤ j0 → j0 < m → f j0 < 0 → (∀ j, k ≤ j → j < m → f j ≤ 0) → sZ m f < sZ k f
  | 0, _, h, _, _ => by omega
  | m + 1, h, h1, h2, hf => by
    rw [sZ]
    by_cases c : j0 = m
    · have h3 := sZ_cut (f := f) (k := k) (m := m) (by omega) fun j a b => hf j a (by omega)
      rw [← c] at h3 ⊢
      omega
    · have h3 := sZ_cut1 (f := f) (k := k) (m := m) h (by omega) h2 fun j a b => hf j a (by omega)
      have h4 := hf m (by omega) (by omega)
      omega
/-- the first rows and columns of such a square -/
theorem Gd.first {m k : Nat} {A : Nat → Nat → Int} (g : Gd m A) (h : k ≤ m) : Gd k A := by
  have out : ∀ i, Out m A i → i < k → Out k A i := fun i o => by
    induction o with
    | @done i hi s =>
      intro hk
      refine .done hk ?_
      have := sZ_cut (f := A i) (k := k) (m := m) h fun j a b => g.off i j hi b (by omega)
      omega
    | @step i j hi hj ne s o ih =>
      intro hk
      by_cases c : j < k
      · exact .step hk c ne s (ih c)
      · refine .done hk ?_
        have h1 := sZ_cut1 (f := A i) (k := k) (j0 := j) (m := m) (by omega) hj s fun y a b => g.off i y hi b (by omega)
        have h2 := g.sum i hi
        omega
  refine ⟨fun i j hi hj ne => g.off i j (by omega) (by omega) ne, fun i hi => ?_, fun i hi => out i (g.out i (by omega)) hi⟩
  have h1 := sZ_cut (f := A i) (k := k) (m := m) h fun j a b => g.off i j (by omega) b (by omega)
  have h2 := g.sum i (by omega)
  omega
/-- the places told in the other order -/
def rv (n : Nat) (M : Nat → Nat → Nat) : Nat → Nat → Nat := fun i j => M (n - 1 - i) (n - 1 - j)
theorem sN_shift (f : Nat → Nat) : ∀ n, sN (n + 1) f = f 0 + sN n fun i => f (i + 1)
  | 0 => by simp [sN]
  | n + 1 => by
    rw [sN, sN_shift f n, sN]
    omega
theorem sN_rv (f : Nat → Nat) : ∀ n, sN n (fun j => f (n - 1 - j)) = sN n f
  | 0 => rfl
  | n + 1 => by
    rw [sN_shift, sN, ← sN_rv f n]
    have e : sN n (fun j => f (n + 1 - 1 - (j + 1))) = sN n (fun j => f (n - 1 - j)) := sN_congr fun j hj => by
      congr 1
      omega
    rw [e]
    have e2 : n + 1 - 1 - 0 = n := by omega
    rw [e2]
    omega
theorem rv_str {n : Nat} {M : Nat → Nat → Nat} (h : StrN n M) : StrN n (rv n M) := by
  have key : ∀ a, a < n → ∀ b, Reach (EdN n M) a b → Reach (EdN n (rv n M)) (n - 1 - a) (n - 1 - b) := fun a ha b r => by
    induction r with
    | refl => exact .refl
    | step _ e ih =>
      obtain ⟨e1, e2, e3⟩ := e
      refine ih.step ⟨by omega, by omega, ?_⟩
      unfold rv
      rename_i x y _
      have q1 : n - 1 - (n - 1 - x) = x := by omega
      have q2 : n - 1 - (n - 1 - y) = y := by omega
      rw [q1, q2]
      exact e3
  intro a b ha hb
  have := key (n - 1 - a) (by omega) (n - 1 - b) (h _ _ (by omega) (by omega))
  have q1 : n - 1 - (n - 1 - a) = a := by omega
  have q2 : n - 1 - (n - 1 - b) = b := by omega
  rw [q1, q2] at this
  exact this
theorem rv_lap {n : Nat} {M : Nat → Nat → Nat} {i j : Nat} (hi : i < n) (hj : j < n) : lap n (rv n M) i j = lap n M (n - 1 - i) (n - 1 - j) := by
  unfold lap
  have e : sN n (rv n M i) = sN n (M (n - 1 - i)) := sN_rv (M (n - 1 - i)) n
  by_cases c : i = j
  · rw [if_pos c, if_pos (by rw [c]), e]
    rfl
  · rw [if_neg c, if_neg (by omega)]
    rfl
/-- all but the last of them -/
theorem rv_good {n : Nat} {M : Nat → Nat → Nat} (h : StrN n M) (h1 : 1 ≤ n) : Gd (n - 1) (lap n (rv n M)) := by
  obtain ⟨k, rfl⟩ : ∃ k, n = k + 1 := ⟨n - 1, by omega⟩
  have g := no_good (rv_str h) (i := k) (by omega)
  show Gd k _
  refine g.congr fun i j hi hj => ?_
  unfold no sk
  rw [if_pos hi, if_pos hj]
/-- one place more left out -/
theorem el_lap {l : Nat} {M : Nat → Nat → Nat} {i j : Nat} (hi : i < l) (hj : j < l) : lap l (el M l) i j = lap (l + 1) M l l * lap (l + 1) M i j - lap (l + 1) M i l * lap (l + 1) M l j := by
  rw [lap_off (show i ≠ l by omega), lap_off (show l ≠ j by omega)]
  unfold lap
  rw [el_sum, if_pos rfl]
  have e : (((sN (l + 1) (M l) : Nat) : Int)) - (M l l : Int) = ((gN M l : Nat) : Int) := by
    show (((gN M l + M l l : Nat)) : Int) - _ = _
    omega
  rw [e]
  unfold el
  rw [Int.natCast_add, Int.natCast_mul, Int.natCast_mul]
  by_cases c : i = j
  · rw [if_pos c, if_pos c, Int.natCast_mul]
    generalize ((gN M l : Nat) : Int) = g
    generalize ((sN (l + 1) (M i) : Nat) : Int) = s
    grind
  · rw [if_neg c, if_neg c]
    generalize ((gN M l : Nat) : Int) = g
    grind
/-- what all rows divide by behind t places left out -/
def qN (n : Nat) (M : Nat → Nat → Nat) (t : Nat) : Nat := (bq (lap n (rv n M)) t).toNat
theorem qN_eq {n : Nat} {M : Nat → Nat → Nat} (h : StrN n M) (h1 : 1 ≤ n) {t : Nat} (ht : t < n) : ((qN n M t : Nat) : Int) = bq (lap n (rv n M)) t ∧ 0 < qN n M t := by
  have := ((rv_good h h1).pivots t (by omega)).2
  unfold qN
  omega
theorem qN_lt {n b : Nat} {M : Nat → Nat → Nat} (h : StrN n M) (h1 : 1 ≤ n) (hb : ∀ i, i < n → sN n (M i) < 2 ^ b) {t : Nat} (ht : t < n) : qN n M t < 2 ^ (1 + t * b) := by
  have g := (rv_good h h1).first (show t ≤ n - 1 by omega)
  have e1 := g.last
  have e2 := g.det_le
  have e3 := g.det
  have e4 := pZ_lt (f := fun i => lap n (rv n M) i i) (b := b) (n := t) fun i hi => by
    show (lap n (rv n M) i i).natAbs < 2 ^ b
    rw [rv_lap (by omega) (by omega)]
    have := hb (n - 1 - i) (by omega)
    unfold lap
    rw [if_pos rfl]
    have h5 : M (n - 1 - i) (n - 1 - i) ≤ sN n (M (n - 1 - i)) := by
      have : ∀ m x (f : Nat → Nat), x < m → f x ≤ sN m f := fun m => by
        induction m with
        | zero => exact fun x f h => by omega
        | succ m ih =>
          intro x f h
          rw [sN]
          by_cases c : x = m
          · rw [c]
            omega
          · have := ih x f (by omega)
            omega
      exact this n _ _ (by omega)
    omega
  have e5 := qN_eq h h1 ht
  rw [e1] at e5
  omega
/-- behind t places left out: all is c times numbers that divide by s i * q -/
theorem stg_red {n : Nat} {M : Nat → Nat → Nat} (h : StrN n M) (h1 : 1 ≤ n) : ∀ t, t < n → ∃ c : Nat, 0 < c ∧ (∀ i j, i < n - t → j < n - t → lap (n - t) (stg n M t) i j = (c : Int) * bb (lap n (rv n M)) t (n - 1 - t - i) (n - 1 - t - j)) ∧
    ∀ i, i < n - t → sN (n - t) (stg n M t i) = c * (sN n (M i) * qN n M t)
  | 0, _ => ⟨1, by omega, fun i j hi hj => by
    show lap n M i j = ((1 : Nat) : Int) * lap n (rv n M) (n - 1 - 0 - i) (n - 1 - 0 - j)
    rw [rv_lap (by omega) (by omega)]
    have q1 : n - 1 - (n - 1 - 0 - i) = i := by omega
    have q2 : n - 1 - (n - 1 - 0 - j) = j := by omega
    rw [q1, q2]
    omega, fun i hi => by
    show sN n (M i) = 1 * (sN n (M i) * qN n M 0)
    have : qN n M 0 = 1 := rfl
    rw [this]
    omega⟩
  | t + 1, ht => by
    obtain ⟨c, c0, hl, hs⟩ := stg_red h h1 t (by omega)
    obtain ⟨l, hl1⟩ : ∃ l, n - t = l + 1 := ⟨n - t - 1, by omega⟩
    have el1 : n - (t + 1) = l := by omega
    have el2 : n - 1 - t = l := by omega
    have el3 : n - 1 - (t + 1) = l - 1 := by omega
    rw [hl1, el2] at hl
    rw [hl1] at hs
    have st : stg n M (t + 1) = el (stg n M t) l := by
      show el (stg n M t) (n - 1 - t) = _
      rw [el2]
    rw [el1, el3, st]
    have g := rv_good h h1
    have ex := (bareiss t (lap n (rv n M)) fun s hs => by
      have h2 := (g.pivots s (by omega)).1
      have e : n - 1 - s = (n - 1 - s - 1) + 1 := by omega
      rw [e] at h2
      have := h2.corner
      omega).2
    obtain ⟨q1, q2⟩ := qN_eq h h1 (show t < n by omega)
    obtain ⟨q3, q4⟩ := qN_eq h h1 ht
    have ch : ∀ i j, chio (bb (lap n (rv n M)) t) i j = (qN n M t : Int) * bb (lap n (rv n M)) (t + 1) i j := fun i j => by
      rw [bb_succ, q1, ex, Int.mul_ediv_cancel_left _ (by omega)]
    have gg : ((gN (stg n M t) l : Nat) : Int) = (c : Int) * (qN n M (t + 1) : Int) := by
      have h2 := hl l l (by omega) (by omega)
      rw [Nat.sub_self] at h2
      have h3 : lap (l + 1) (stg n M t) l l = ((gN (stg n M t) l : Nat) : Int) := by
        unfold lap
        rw [if_pos rfl]
        show (((gN (stg n M t) l + stg n M t l l : Nat)) : Int) - _ = _
        omega
      rw [h3] at h2
      rw [h2, q3, bq_succ]
    refine ⟨c * c * qN n M t, Nat.mul_pos (Nat.mul_pos c0 c0) q2, fun i j hi hj => ?_, fun i hi => ?_⟩
    · rw [el_lap hi hj, hl l l (by omega) (by omega), hl i j (by omega) (by omega), hl i l (by omega) (by omega), hl l j (by omega) (by omega), Nat.sub_self]
      have e := ch (l - 1 - i) (l - 1 - j)
      unfold chio at e
      have f1 : l - 1 - i + 1 = l - i := by omega
      have f2 : l - 1 - j + 1 = l - j := by omega
      rw [f1, f2] at e
      rw [Int.natCast_mul, Int.natCast_mul, Int.mul_assoc _ (qN n M t : Int), ← e]
      generalize bb (lap n (rv n M)) t 0 0 = a
      generalize bb (lap n (rv n M)) t (l - i) (l - j) = b
      generalize bb (lap n (rv n M)) t (l - i) 0 = d
      generalize bb (lap n (rv n M)) t 0 (l - j) = f
      generalize (c : Int) = c
      grind
    · rw [el_sum, hs i (by omega)]
      have : gN (stg n M t) l = c * qN n M (t + 1) := by
        have h9 : ((gN (stg n M t) l : Nat) : Int) = ((c * qN n M (t + 1) : Nat) : Int) := by
          rw [gg, Int.natCast_mul]
        exact Int.ofNat.inj h9
      rw [this]
      generalize qN n M (t + 1) = x
      generalize qN n M t = y
      generalize sN n (M i) = s
      grind
theorem sN_ge {f : Nat → Nat} : ∀ {n x : Nat}, x < n → f x ≤ sN n f
  | 0, _, h => by omega
  | n + 1, x, h => by
    rw [sN]
    by_cases c : x = n
    · rw [c]
      omega
    · have := sN_ge (f := f) (n := n) (x := x) (by omega)
      omega
/-- each number of such a stage is c times one, at most its row's -/
theorem stg_num {n : Nat} {M : Nat → Nat → Nat} (h : StrN n M) (h1 : 1 ≤ n) {t : Nat} (ht : t < n) : ∃ c : Nat, 0 < c ∧ (∀ i j, i < n - t → j < n - t → ∃ x, stg n M t i j = c * x ∧ x ≤ sN n (M i) * qN n M t) ∧ ∀ i, i < n - t → sN (n - t) (stg n M t i) = c * (sN n (M i) * qN n M t) := by
  obtain ⟨c, c0, hl, hs⟩ := stg_red h h1 t ht
  refine ⟨c, c0, fun i j hi hj => ?_, hs⟩
  have e := hl i j hi hj
  obtain ⟨z, hz⟩ : ∃ z : Int, ((stg n M t i j : Nat) : Int) = (c : Int) * z := by
    have e' : (if i = j then ((sN (n - t) (stg n M t i) : Nat) : Int) else 0) - ((stg n M t i j : Nat) : Int) = (c : Int) * bb (lap n (rv n M)) t (n - 1 - t - i) (n - 1 - t - j) := e
    by_cases cc : i = j
    · rw [if_pos cc, hs i hi] at e'
      refine ⟨((sN n (M i) * qN n M t : Nat) : Int) - bb (lap n (rv n M)) t (n - 1 - t - i) (n - 1 - t - j), ?_⟩
      rw [Int.natCast_mul] at e'
      rw [Int.mul_sub, ← e']
      omega
    · rw [if_neg cc] at e'
      refine ⟨- bb (lap n (rv n M)) t (n - 1 - t - i) (n - 1 - t - j), ?_⟩
      rw [Int.mul_neg, ← e']
      omega
  have z0 : 0 ≤ z := by
    by_cases cz : 0 ≤ z
    · exact cz
    · have : (c : Int) * z < 0 := Int.mul_neg_of_pos_of_neg (by omega) (by omega)
      omega
  obtain ⟨x, rfl⟩ : ∃ x : Nat, z = (x : Int) := ⟨z.toNat, by omega⟩
  have ex : stg n M t i j = c * x := by exact_mod_cast hz
  refine ⟨x, ex, ?_⟩
  have h2 := sN_ge (f := stg n M t i) hj
  rw [hs i hi, ex] at h2
  exact Nat.le_of_mul_le_mul_left h2 c0
end Bw
set_option exponentiation.threshold 4000
/-! Part 32. Walks drawn from squares of numbers below 2 ^ b i in row i, how long all is that comes of them; the walk backwards is such a walk. Plain mathematics. -/
namespace Bw
theorem sN_two {f : Nat → Nat} {t j : Nat} : ∀ {n : Nat}, t ≤ j → j < n → sN t f + f j ≤ sN n f
  | 0, _, h => by omega
  | n + 1, h, h1 => by
    rw [sN]
    by_cases c : j = n
    · rw [c]
      have : ∀ m, t ≤ m → sN t f ≤ sN m f := fun m => by
        induction m with
        | zero =>
          intro z
          have : t = 0 := by omega
          rw [this]
          exact Nat.le_refl _
        | succ m ih =>
          intro z
          by_cases e : t = m + 1
          · rw [e]
            exact Nat.le_refl _
          · have := ih (by omega)
            rw [sN]
            omega
      have := this n (by omega)
      omega
    · have := sN_two (f := f) (t := t) (j := j) (n := n) h (by omega)
      omega
theorem sN_mono {f g : Nat → Nat} : ∀ {n : Nat}, (∀ i, i < n → f i ≤ g i) → sN n f ≤ sN n g
  | 0, _ => Nat.le_refl _
  | n + 1, h => by
    rw [sN, sN]
    have := sN_mono (f := f) (g := g) (n := n) fun i hi => h i (by omega)
    have := h n (by omega)
    omega
theorem sN_cst (c : Nat) : ∀ n, sN n (fun _ => c) = n * c
  | 0 => by simp [sN]
  | n + 1 => by rw [sN, sN_cst c n, Nat.succ_mul]
theorem sN_skip (f : Nat → Nat) (i : Nat) : ∀ n, i ≤ n → sN (n + 1) f = f i + sN n fun r => f (sk i r)
  | 0, h => by
    have : i = 0 := by omega
    subst this
    simp [sN]
  | n + 1, h => by
    by_cases c : i = n + 1
    · subst c
      have e : (sN (n + 1) fun r => f (sk (n + 1) r)) = sN (n + 1) f := sN_congr fun r hr => by
        unfold sk
        rw [if_pos hr]
      rw [e, sN, Nat.add_comm]
    · rw [sN, sN_skip f i n (by omega), sN]
      have e : sk i n = n + 1 := by
        unfold sk
        rw [if_neg (by omega)]
      rw [e]
      omega
theorem pZ_ltr {f : Nat → Int} {c : Nat → Nat} : ∀ {n : Nat}, (∀ i, i < n → (f i).natAbs < 2 ^ c i) → (pZ n f).natAbs < 2 ^ (1 + sN n c)
  | 0, _ => by
    show (1 : Int).natAbs < 2 ^ (1 + 0)
    decide
  | n + 1, h => by
    rw [pZ, sN, ← Nat.add_assoc]
    exact Bq.mul_lt (pZ_ltr fun i hi => h i (by omega)) (h n (by omega))
/-- a walk drawn from a square of numbers, those of row i below 2 ^ b i -/
structure WkS (b : Nat → Nat) (n : Nat) (M : List (List Nat)) : Prop where
  n1 : 1 ≤ n
  n6 : n ≤ 6
  hS : sN n (fun i => b i + 3) ≤ 2200
  l : M.length = n
  r : ∀ row ∈ M, row.length = n
  k : ∀ i j, i < n → j < n → mf M i j < 2 ^ b i
  st : StrN n (mf M)
  p : ∀ i, i < n → 0 < sN n (mf M i)
/-- how long all of it gets -/
abbrev bS (n : Nat) (b : Nat → Nat) : Nat := sN n fun i => b i + 3
theorem WkS.at {b : Nat → Nat} {n : Nat} {M : List (List Nat)} (h : WkS b n M) {i : Nat} (hi : i < n) : ∃ row, M[i]? = some row ∧ row.length = n := by
  have hl := h.l
  have e : M[i]? = some (M[i]'(by omega)) := List.getElem?_eq_getElem (by omega)
  exact ⟨_, e, h.r _ (List.mem_of_getElem? e)⟩
theorem WkS.row {b : Nat → Nat} {n : Nat} {M : List (List Nat)} (h : WkS b n M) {i : Nat} (hi : i < n) : (walkM M)[i]? = some ((List.range n).map fun j => chQ n (mf M) i j) := by
  obtain ⟨row, e, hl⟩ := h.at hi
  unfold walkM
  rw [List.getElem?_map, e]
  show some (overQ row) = _
  rw [overQ_eq hl]
  unfold chQ
  rw [mf_row e]
theorem WkS.len {b : Nat → Nat} {n : Nat} {M : List (List Nat)} (h : WkS b n M) : (walkM M).length = n := by
  unfold walkM
  rw [List.length_map, h.l]
theorem WkS.tab {b : Nat → Nat} {n : Nat} {M : List (List Nat)} (h : WkS b n M) : walkM M = (List.range n).map fun i => (List.range n).map fun j => chQ n (mf M) i j := by
  refine List.ext_getElem? fun i => ?_
  by_cases hi : i < n
  · rw [h.row hi, List.getElem?_map, List.getElem?_range hi]
    rfl
  · rw [List.getElem?_eq_none (by rw [h.len]; omega), List.getElem?_eq_none (by simp; omega)]
theorem WkS.rs_lt {b : Nat → Nat} {n : Nat} {M : List (List Nat)} (h : WkS b n M) {i : Nat} (hi : i < n) : sN n (mf M i) < 2 ^ (b i + 3) := sN_bits h.n6 fun j hj => h.k i j hi hj
theorem mul_lt2 {a b m n : Nat} (ha : a < 2 ^ m) (hb : b < 2 ^ n) {k : Nat} (h : m + n ≤ k) : a * b < 2 ^ k := Nat.lt_of_lt_of_le (mul_bits ha hb) (pow_le h)
section
variable {b : Nat → Nat} {n : Nat} {M : List (List Nat)}
theorem WkS.q_pos (h : WkS b n M) {t : Nat} (ht : t < n) : 0 < qN n (mf M) t := (qN_eq h.st h.n1 ht).2
/-- how long what divides all gets behind t places left out -/
def cS (n : Nat) (b : Nat → Nat) (t : Nat) : Nat := sN t fun i => b (n - 1 - i) + 3
theorem cS_succ {t : Nat} (ht : t < n) : cS n b (t + 1) = cS n b t + (b (n - 1 - t) + 3) := rfl
theorem cS_le {t : Nat} (ht : t ≤ n) : cS n b t ≤ bS n b := by
  have e := sN_rv (fun i => b i + 3) n
  show sN t (fun i => b (n - 1 - i) + 3) ≤ sN n fun i => b i + 3
  rw [← e]
  by_cases c : t = n
  · rw [c]
    exact Nat.le_refl _
  · have := sN_two (f := fun i => b (n - 1 - i) + 3) (t := t) (j := t) (n := n) (Nat.le_refl _) (by omega)
    omega
theorem cS_row {t i : Nat} (ht : t < n) (hi : i < n - t) : (b i + 3) + cS n b t ≤ bS n b := by
  have e := sN_rv (fun i => b i + 3) n
  have h := sN_two (f := fun i => b (n - 1 - i) + 3) (t := t) (j := n - 1 - i) (n := n) (by omega) (by omega)
  have q : n - 1 - (n - 1 - i) = i := by omega
  have h' : sN t (fun i => b (n - 1 - i) + 3) + (b (n - 1 - (n - 1 - i)) + 3) ≤ sN n fun i => b (n - 1 - i) + 3 := h
  rw [q] at h'
  have e' : (sN n fun i => b (n - 1 - i) + 3) = sN n fun i => b i + 3 := e
  show (b i + 3) + sN t (fun i => b (n - 1 - i) + 3) ≤ sN n fun i => b i + 3
  omega
theorem WkS.q_lt (h : WkS b n M) {t : Nat} (ht : t < n) : qN n (mf M) t < 2 ^ (1 + cS n b t) := by
  have g := (rv_good h.st h.n1).first (show t ≤ n - 1 by omega)
  have e1 := g.last
  have e2 := g.det_le
  have e3 := g.det
  have e4 := pZ_ltr (f := fun i => lap n (rv n (mf M)) i i) (c := fun i => b (n - 1 - i) + 3) (n := t) fun i hi => by
    show (lap n (rv n (mf M)) i i).natAbs < 2 ^ (b (n - 1 - i) + 3)
    rw [rv_lap (by omega) (by omega)]
    have := h.rs_lt (i := n - 1 - i) (by omega)
    unfold lap
    rw [if_pos rfl]
    have h5 := sN_ge (f := mf M (n - 1 - i)) (n := n) (x := n - 1 - i) (by omega)
    omega
  have e5 := qN_eq h.st h.n1 ht
  rw [e1] at e5
  have e6 : cS n b t = sN t fun i => b (n - 1 - i) + 3 := rfl
  rw [e6]
  omega
theorem WkS.q_ltS (h : WkS b n M) {t : Nat} (ht : t < n) : qN n (mf M) t < 2 ^ (1 + bS n b) :=
  Nat.lt_of_lt_of_le (h.q_lt ht) (pow_le (by have := cS_le (n := n) (b := b) (t := t) (by omega); omega))
/-- the chances of a stage, over what is told of them -/
theorem WkS.ch_red (h : WkS b n M) {t : Nat} (ht : t < n) {i j : Nat} (hi : i < n - t) (hj : j < n - t) : ∃ x, x ≤ sN n (mf M i) * qN n (mf M) t ∧ chQ (n - t) (stg n (mf M) t) i j = fQ x / fQ (sN n (mf M i) * qN n (mf M) t) := by
  obtain ⟨c, c0, h1, h2⟩ := stg_num h.st h.n1 ht
  obtain ⟨x, e, hx⟩ := h1 i j hi hj
  refine ⟨x, hx, ?_⟩
  unfold chQ
  rw [e, h2 i hi, fQ_mul, fQ_mul]
  have z1 := fQ_ne c0
  have z2 := fQ_ne (Nat.mul_pos (h.p i (by omega)) (h.q_pos ht))
  generalize fQ (sN n (mf M i) * qN n (mf M) t) = a at *
  generalize fQ c = b at *
  generalize fQ x = d
  grind
theorem WkS.d_lt (h : WkS b n M) {t i : Nat} (ht : t < n) (hi : i < n - t) : sN n (mf M i) * qN n (mf M) t < 2 ^ (1 + bS n b) :=
  mul_lt2 (h.rs_lt (by omega)) (h.q_lt ht) (by have := cS_row (n := n) (b := b) ht hi; omega)
theorem WkS.d_pos (h : WkS b n M) {t i : Nat} (ht : t < n) (hi : i < n) : 0 < sN n (mf M i) * qN n (mf M) t := Nat.mul_pos (h.p i hi) (h.q_pos ht)
theorem WkS.ch_sz2 (h : WkS b n M) {l i j : Nat} (h1 : 1 ≤ l) (hl : l < n) (hi : i ≤ l) (hj : j ≤ l) : Bq.Sz (1 + bS n b) (chQ (l + 1) (stg n (mf M) (n - 1 - l)) i j) := by
  obtain ⟨x, hx, e⟩ := h.ch_red (t := n - 1 - l) (i := i) (j := j) (by omega) (by omega) (by omega)
  have el : n - (n - 1 - l) = l + 1 := by omega
  rw [el] at e
  rw [e]
  have d := h.d_lt (t := n - 1 - l) (i := i) (by omega) (by omega)
  exact fQ_sz (Nat.lt_of_le_of_lt hx d) d (h.d_pos (by omega) (by omega))
/-- what goes to those ahead: no sum on the way is longer -/
theorem WkS.ch_part (h : WkS b n M) {l i : Nat} (h1 : 1 ≤ l) (hl : l < n) (hi : i ≤ l) {k : Nat} (hk : k ≤ l) : Bq.Sz (1 + bS n b) (Bq.sumQ ((List.range k).map fun j => chQ (l + 1) (stg n (mf M) (n - 1 - l)) i j)) := by
  obtain ⟨c, c0, e1, e2⟩ := stg_num h.st h.n1 (show n - 1 - l < n by omega)
  have el : n - (n - 1 - l) = l + 1 := by omega
  rw [el] at e1 e2
  have e3 := sumQ_div (stg n (mf M) (n - 1 - l) i) (fQ (sN (l + 1) (stg n (mf M) (n - 1 - l) i))) k
  have e4 : Bq.sumQ ((List.range k).map fun j => chQ (l + 1) (stg n (mf M) (n - 1 - l)) i j) = fQ (sN k (stg n (mf M) (n - 1 - l) i)) / fQ (sN (l + 1) (stg n (mf M) (n - 1 - l) i)) := e3
  have dv : ∀ m, m ≤ l + 1 → ∃ x, sN m (stg n (mf M) (n - 1 - l) i) = c * x := fun m => by
    induction m with
    | zero => exact fun _ => ⟨0, by simp [sN]⟩
    | succ m ih =>
      intro hm
      obtain ⟨x, hx⟩ := ih (by omega)
      obtain ⟨y, hy, _⟩ := e1 i m (by omega) (by omega)
      exact ⟨x + y, by rw [sN, hx, hy, Nat.mul_add]⟩
  obtain ⟨x, hx⟩ := dv k (by omega)
  have le : sN k (stg n (mf M) (n - 1 - l) i) ≤ sN (l + 1) (stg n (mf M) (n - 1 - l) i) := by
    have := sN_two (f := stg n (mf M) (n - 1 - l) i) (t := k) (j := k) (n := l + 1) (Nat.le_refl _) (by omega)
    omega
  have d := h.d_lt (t := n - 1 - l) (i := i) (by omega) (by omega)
  have d0 := h.d_pos (t := n - 1 - l) (i := i) (by omega) (by omega)
  rw [e2 i (by omega), hx] at le
  have le2 : x ≤ sN n (mf M i) * qN n (mf M) (n - 1 - l) := Nat.le_of_mul_le_mul_left le c0
  rw [e4, e2 i (by omega), hx]
  have e5 : fQ (c * x) / fQ (c * (sN n (mf M i) * qN n (mf M) (n - 1 - l))) = fQ x / fQ (sN n (mf M i) * qN n (mf M) (n - 1 - l)) := by
    rw [fQ_mul, fQ_mul]
    have z1 := fQ_ne c0
    have z2 := fQ_ne d0
    generalize fQ (sN n (mf M i) * qN n (mf M) (n - 1 - l)) = a at *
    generalize fQ c = b at *
    generalize fQ x = d
    grind
  rw [e5]
  exact fQ_sz (Nat.lt_of_le_of_lt le2 d) d d0
theorem WkS.st2 (h : WkS b n M) {l : Nat} (hl : l < n) : StrN (l + 1) (stg n (mf M) (n - 1 - l)) := by
  have z := stg_str h.st (n - 1 - l) (by omega)
  have e : n - (n - 1 - l) = l + 1 := by omega
  rw [e] at z
  exact z
/-- what goes from the last place to those ahead, over what is told of it -/
theorem WkS.go_red (h : WkS b n M) {l : Nat} (h1 : 1 ≤ l) (hl : l < n) : fQ (gN (stg n (mf M) (n - 1 - l)) l) / fQ (sN (l + 1) (stg n (mf M) (n - 1 - l) l)) = fQ (qN n (mf M) (n - l)) / fQ (sN n (mf M l) * qN n (mf M) (n - 1 - l)) := by
  obtain ⟨c, c0, e1, e2⟩ := stg_red h.st h.n1 (n - 1 - l) (by omega)
  have el : n - (n - 1 - l) = l + 1 := by omega
  have el2 : n - 1 - (n - 1 - l) - l = 0 := by omega
  rw [el] at e1 e2
  have e3 := e1 l l (by omega) (by omega)
  rw [el2] at e3
  have e4 := e2 l (by omega)
  have e5 : lap (l + 1) (stg n (mf M) (n - 1 - l)) l l = ((gN (stg n (mf M) (n - 1 - l)) l : Nat) : Int) := by
    unfold lap
    rw [if_pos rfl]
    show (((gN (stg n (mf M) (n - 1 - l)) l + stg n (mf M) (n - 1 - l) l l : Nat)) : Int) - _ = _
    omega
  have e6 := (qN_eq h.st h.n1 (show n - l < n by omega)).1
  have e7 : n - l = n - 1 - l + 1 := by omega
  rw [e5] at e3
  have e8 : gN (stg n (mf M) (n - 1 - l)) l = c * qN n (mf M) (n - l) := by
    have : ((gN (stg n (mf M) (n - 1 - l)) l : Nat) : Int) = ((c * qN n (mf M) (n - l) : Nat) : Int) := by
      rw [e3, Int.natCast_mul, e6, e7, bq_succ]
    exact Int.ofNat.inj this
  rw [e8, e4, fQ_mul, fQ_mul]
  have z1 := fQ_ne c0
  have z2 := fQ_ne (h.d_pos (t := n - 1 - l) (i := l) (by omega) hl)
  generalize fQ (sN n (mf M l) * qN n (mf M) (n - 1 - l)) = a at *
  generalize fQ c = b at *
  generalize fQ (qN n (mf M) (n - l)) = d
  grind
theorem WkS.go_sz (h : WkS b n M) {l : Nat} (h1 : 1 ≤ l) (hl : l < n) : Bq.Sz (1 + bS n b) (fQ (gN (stg n (mf M) (n - 1 - l)) l) / fQ (sN (l + 1) (stg n (mf M) (n - 1 - l) l))) := by
  rw [h.go_red h1 hl]
  exact fQ_sz (h.q_ltS (by omega)) (h.d_lt (by omega) (by omega)) (h.d_pos (by omega) hl)
theorem WkS.go_pos (h : WkS b n M) {l : Nat} (h1 : 1 ≤ l) (hl : l < n) : 0 < fQ (gN (stg n (mf M) (n - 1 - l)) l) / fQ (sN (l + 1) (stg n (mf M) (n - 1 - l) l)) :=
  div_pos (fQ_pos (g_pos (h.st2 hl) h1)) (fQ_pos (out_pos (h.st2 hl) (by omega) (by omega)))
theorem WkS.bk_red (h : WkS b n M) {l : Nat} (h1 : 1 ≤ l) (hl : l < n) {i : Nat} (hi : i < l) : ∃ x, x ≤ sN n (mf M i) * qN n (mf M) (n - 1 - l) ∧ bkQ l (stg n (mf M) (n - 1 - l)) i = fQ (x * sN n (mf M l)) / fQ (sN n (mf M i) * qN n (mf M) (n - l)) := by
  obtain ⟨x, hx, e⟩ := h.ch_red (t := n - 1 - l) (i := i) (j := l) (by omega) (by omega) (by omega)
  refine ⟨x, hx, ?_⟩
  have el : n - (n - 1 - l) = l + 1 := by omega
  rw [el] at e
  unfold bkQ
  rw [e, h.go_red h1 hl, fQ_mul, fQ_mul, fQ_mul, fQ_mul]
  have z1 := fQ_ne (h.p i (by omega))
  have z2 := fQ_ne (h.p l hl)
  have z3 := fQ_ne (h.q_pos (t := n - 1 - l) (by omega))
  have z4 := fQ_ne (h.q_pos (t := n - l) (by omega))
  generalize fQ (sN n (mf M i)) = a at *
  generalize fQ (sN n (mf M l)) = b at *
  generalize fQ (qN n (mf M) (n - 1 - l)) = c at *
  generalize fQ (qN n (mf M) (n - l)) = d at *
  generalize fQ x = f
  grind
theorem WkS.bk_sz (h : WkS b n M) {l : Nat} (h1 : 1 ≤ l) (hl : l < n) {i : Nat} (hi : i < l) : Bq.Sz (1 + bS n b) (bkQ l (stg n (mf M) (n - 1 - l)) i) := by
  obtain ⟨x, hx, e⟩ := h.bk_red h1 hl hi
  rw [e]
  have cr := cS_row (n := n) (b := b) (t := n - l) (i := i) (by omega) (by omega)
  have cs := cS_succ (n := n) (b := b) (t := n - 1 - l) (by omega)
  have q1 : n - 1 - l + 1 = n - l := by omega
  have q2 : n - 1 - (n - 1 - l) = l := by omega
  rw [q1, q2] at cs
  have d1 : sN n (mf M i) * qN n (mf M) (n - 1 - l) < 2 ^ (1 + (b i + 3) + cS n b (n - 1 - l)) := mul_lt2 (h.rs_lt (by omega)) (h.q_lt (by omega)) (by omega)
  exact fQ_sz (mul_lt2 (Nat.lt_of_le_of_lt hx d1) (h.rs_lt hl) (by omega)) (h.d_lt (by omega) (by omega)) (h.d_pos (by omega) (by omega))
end
/-! ### trees into each place -/
def wN (n : Nat) (M : Nat → Nat → Nat) (i : Nat) : Nat := (wZ n M i).toNat
section
variable {b : Nat → Nat} {n : Nat} {M : List (List Nat)}
theorem WkS.w_eq (h : WkS b n M) {i : Nat} (hi : i < n) : ((wN n (mf M) i : Nat) : Int) = wZ n (mf M) i ∧ 0 < wN n (mf M) i := by
  have := wZ_pos h.st hi
  unfold wN
  omega
theorem WkS.w_lt (h : WkS b n M) {i : Nat} (hi : i < n) : ∃ e, wN n (mf M) i < 2 ^ (1 + e) ∧ e + (b i + 3) = bS n b := by
  obtain ⟨k, hk⟩ : ∃ k, n = k + 1 := ⟨n - 1, by omega⟩
  have g : Gd k (no i (lap (k + 1) (mf M))) := no_good (by rw [← hk]; exact h.st) (by omega)
  have e1 := g.det_le
  have e2 := g.det
  have e3 := pZ_ltr (f := fun r => no i (lap (k + 1) (mf M)) r r) (c := fun r => b (sk i r) + 3) (n := k) fun r hr => by
    show (lap (k + 1) (mf M) (sk i r) (sk i r)).natAbs < 2 ^ (b (sk i r) + 3)
    have := h.rs_lt (i := sk i r) (by rw [hk]; exact sk_lt hr)
    rw [hk] at this
    have h5 := sN_ge (f := mf M (sk i r)) (n := k + 1) (x := sk i r) (sk_lt hr)
    unfold lap
    rw [if_pos rfl]
    omega
  have e4 := h.w_eq hi
  have e5 := sN_skip (fun i => b i + 3) i k (by omega)
  unfold wZ at e4
  rw [hk, Nat.add_sub_cancel] at e4
  refine ⟨sN k fun r => b (sk i r) + 3, ?_, ?_⟩
  · rw [hk]
    omega
  · show _ = sN n fun i => b i + 3
    rw [hk, e5]
    omega
theorem WkS.w_sol (h : WkS b n M) {i j : Nat} (hi : i < n) (hj : j < n) : wN n (mf M) i * sol n (mf M) j = wN n (mf M) j * sol n (mf M) i := by
  have e := wZ_sol h.st hi hj
  rw [← (h.w_eq hi).1, ← (h.w_eq hj).1] at e
  exact_mod_cast e
/-- the trees' sum into a place times what goes out of it -/
def pW (n : Nat) (M : List (List Nat)) (i : Nat) : Nat := wN n (mf M) i * sN n (mf M i)
def allW (n : Nat) (M : List (List Nat)) : Nat := sN n (pW n M)
theorem WkS.pW_pos (h : WkS b n M) {i : Nat} (hi : i < n) : 0 < pW n M i := Nat.mul_pos (h.w_eq hi).2 (h.p i hi)
theorem WkS.pW_lt (h : WkS b n M) {i : Nat} (hi : i < n) : pW n M i < 2 ^ (1 + bS n b) := by
  obtain ⟨e, h1, h2⟩ := h.w_lt hi
  exact mul_lt2 h1 (h.rs_lt hi) (by omega)
theorem WkS.wM_lt (h : WkS b n M) {i j : Nat} (hi : i < n) (hj : j < n) : wN n (mf M) i * mf M i j < 2 ^ (bS n b - 2) := by
  obtain ⟨e, h1, h2⟩ := h.w_lt hi
  exact mul_lt2 h1 (h.k i j hi hj) (by omega)
theorem WkS.allW_lt (h : WkS b n M) : allW n M < 2 ^ (4 + bS n b) := by
  have := sN_bits (f := pW n M) h.n6 fun i hi => h.pW_lt hi
  have e : 1 + bS n b + 3 = 4 + bS n b := by omega
  rw [e] at this
  exact this
theorem WkS.allW_pos (h : WkS b n M) : 0 < allW n M := sN_pos (i := 0) (by have := h.n1; omega) (h.pW_pos (by have := h.n1; omega))
theorem WkS.pN_pos (h : WkS b n M) {i : Nat} (hi : i < n) : 0 < pN n (mf M) i := Nat.mul_pos (sol_pos h.st i hi) (h.p i hi)
theorem WkS.all_pos (h : WkS b n M) : 0 < allN n M := sN_pos (i := 0) (by have := h.n1; omega) (h.pN_pos (by have := h.n1; omega))
/-- both are one but for a factor -/
theorem WkS.pW_sol (h : WkS b n M) {i j : Nat} (hi : i < n) (hj : j < n) : pW n M i * sol n (mf M) j = wN n (mf M) j * pN n (mf M) i := by
  have e := h.w_sol hi hj
  unfold pW pN
  rw [Nat.mul_right_comm, e, Nat.mul_assoc]
theorem WkS.pW_pN (h : WkS b n M) {i j : Nat} (hi : i < n) (hj : j < n) : pW n M i * pN n (mf M) j = pW n M j * pN n (mf M) i := by
  have e := h.w_sol hi hj
  unfold pW pN
  generalize wN n (mf M) i = a at *
  generalize wN n (mf M) j = b at *
  generalize sol n (mf M) i = c at *
  generalize sol n (mf M) j = d at *
  generalize sN n (mf M i) = s
  generalize sN n (mf M j) = t
  have : a * s * (d * t) = (a * d) * (s * t) := by grind
  rw [this, e]
  grind
theorem sN_mulL (c : Nat) (f : Nat → Nat) (n : Nat) : sN n (fun j => c * f j) = c * sN n f := by
  have := sN_mul f c n
  rw [Nat.mul_comm c, ← this]
  exact sN_congr fun j _ => Nat.mul_comm _ _
theorem WkS.allW_pN (h : WkS b n M) {i : Nat} (hi : i < n) : pW n M i * allN n M = allW n M * pN n (mf M) i := by
  unfold allN allW
  rw [← sN_mulL, ← sN_mul]
  exact sN_congr fun j hj => h.pW_pN hi hj
theorem ratio_eq {a b c d : Nat} (hb : 0 < b) (hd : 0 < d) (e : a * d = c * b) : fQ a / fQ b = fQ c / fQ d := by
  have e2 : fQ a * fQ d = fQ c * fQ b := by rw [← fQ_mul, ← fQ_mul, e]
  have z1 := fQ_ne hb
  have z2 := fQ_ne hd
  generalize fQ a = a' at *
  generalize fQ b = b' at *
  generalize fQ c = c' at *
  generalize fQ d = d' at *
  grind
theorem WkS.sh_eq (h : WkS b n M) {i : Nat} (hi : i < n) : shQ n M i = fQ (pW n M i) / fQ (allW n M) := by
  unfold shQ
  refine ratio_eq h.all_pos h.allW_pos ?_
  rw [h.allW_pN hi, Nat.mul_comm]
theorem WkS.found_eq2 (h : WkS b n M) {i : Nat} (hi : i < n) : fQ (pN n (mf M) i) / fQ (pN n (mf M) 0) = fQ (pW n M i) / fQ (pW n M 0) := by
  have h0 : 0 < n := by omega
  refine ratio_eq (h.pN_pos h0) (h.pW_pos h0) ?_
  have := h.pW_pN hi h0
  rw [this, Nat.mul_comm]
theorem WkS.found_sz (h : WkS b n M) {i : Nat} (hi : i < n) : Bq.Sz (1 + bS n b) (fQ (pN n (mf M) i) / fQ (pN n (mf M) 0)) := by
  rw [h.found_eq2 hi]
  exact fQ_sz (h.pW_lt hi) (h.pW_lt (by omega)) (h.pW_pos (by omega))
theorem WkS.found_part (h : WkS b n M) {k : Nat} (hk : k ≤ n) : Bq.Sz (4 + bS n b) (Bq.sumQ ((List.range k).map fun i => fQ (pN n (mf M) i) / fQ (pN n (mf M) 0))) := by
  have n1 := h.n1
  have e : ((List.range k).map fun i => fQ (pN n (mf M) i) / fQ (pN n (mf M) 0)) = (List.range k).map fun i => fQ (pW n M i) / fQ (pW n M 0) := List.map_congr_left fun i hi => h.found_eq2 (by have := List.mem_range.mp hi; omega)
  rw [e, sumQ_div (pW n M) (fQ (pW n M 0)) k]
  have le : sN k (pW n M) ≤ allW n M := by
    by_cases c : k = n
    · rw [c]
      exact Nat.le_refl _
    · have := sN_two (f := pW n M) (t := k) (j := k) (n := n) (Nat.le_refl _) (by omega)
      unfold allW
      omega
  exact fQ_sz (Nat.lt_of_le_of_lt le h.allW_lt) (Nat.lt_of_lt_of_le (h.pW_lt (by omega)) (pow_le (by omega))) (h.pW_pos (by omega))
/-- what comes to a place that is put in again, over one number below -/
theorem WkS.term_red (h : WkS b n M) {l : Nat} (h1 : 1 ≤ l) (hl : l < n) : ∃ f : Nat → Nat, (∀ i, i < l → fQ (pN n (mf M) i) / fQ (pN n (mf M) 0) * bkQ l (stg n (mf M) (n - 1 - l)) i = fQ (f i) / fQ (pW n M 0 * qN n (mf M) (n - l))) ∧ sN l f = pW n M l * qN n (mf M) (n - l) := by
  have z3 := fQ_ne (h.pW_pos (i := 0) (by omega))
  have z4 := fQ_ne (h.q_pos (t := n - l) (by omega))
  have each : ∀ i, i < l → ∃ y, fQ (pN n (mf M) i) / fQ (pN n (mf M) 0) * bkQ l (stg n (mf M) (n - 1 - l)) i = fQ y / fQ (pW n M 0 * qN n (mf M) (n - l)) := fun i hi => by
    obtain ⟨x, hx, e⟩ := h.bk_red h1 hl hi
    refine ⟨wN n (mf M) i * (x * sN n (mf M l)), ?_⟩
    rw [h.found_eq2 (by omega), e]
    have z1 := fQ_ne (h.p i (by omega))
    have : fQ (pW n M i) = fQ (wN n (mf M) i) * fQ (sN n (mf M i)) := fQ_mul _ _
    rw [this, fQ_mul (sN n (mf M i)), fQ_mul (pW n M 0), fQ_mul (wN n (mf M) i)]
    generalize fQ (sN n (mf M i)) = a at *
    generalize fQ (pW n M 0) = b at *
    generalize fQ (qN n (mf M) (n - l)) = c at *
    generalize fQ (wN n (mf M) i) = d
    generalize fQ (x * sN n (mf M l)) = f
    grind
  let f : Nat → Nat := fun i => if hi : i < l then Classical.choose (each i hi) else 0
  have hf : ∀ i, i < l → fQ (pN n (mf M) i) / fQ (pN n (mf M) 0) * bkQ l (stg n (mf M) (n - 1 - l)) i = fQ (f i) / fQ (pW n M 0 * qN n (mf M) (n - l)) := fun i hi => by
    have e : f i = Classical.choose (each i hi) := dif_pos hi
    rw [e]
    exact Classical.choose_spec (each i hi)
  refine ⟨f, hf, ?_⟩
  have st := h.st2 hl
  have e1 := found_eq st h1 (fQ (pN n (mf M) 0))
  have zz : ∀ j, j ≤ l → pN (l + 1) (stg n (mf M) (n - 1 - l)) j = pN n (mf M) j := fun j hj => by
    have z := pN_stg (n := n) (M := mf M) (n - 1 - l) (by omega) j (by omega)
    have e : n - (n - 1 - l) = l + 1 := by omega
    rw [e] at z
    exact z
  have e2 : ((List.range l).map fun i => fQ (pN (l + 1) (stg n (mf M) (n - 1 - l)) i) / fQ (pN n (mf M) 0) * bkQ l (stg n (mf M) (n - 1 - l)) i) = (List.range l).map fun i => fQ (f i) / fQ (pW n M 0 * qN n (mf M) (n - l)) := List.map_congr_left fun i hi => by
    rw [zz i (by have := List.mem_range.mp hi; omega)]
    exact hf i (List.mem_range.mp hi)
  rw [e2, sumQ_div f (fQ (pW n M 0 * qN n (mf M) (n - l))) l, zz l (Nat.le_refl _), h.found_eq2 hl] at e1
  refine fQ_inj ?_
  rw [fQ_mul] at e1 ⊢
  generalize fQ (sN l f) = a at *
  generalize fQ (pW n M 0) = b at *
  generalize fQ (qN n (mf M) (n - l)) = c at *
  generalize fQ (pW n M l) = d at *
  grind
theorem WkS.term_sz (h : WkS b n M) {l : Nat} (h1 : 1 ≤ l) (hl : l < n) : (∀ i, i < l → Bq.Sz (2 + 2 * bS n b) (fQ (pN n (mf M) i) / fQ (pN n (mf M) 0) * bkQ l (stg n (mf M) (n - 1 - l)) i)) ∧
    ∀ k, k ≤ l → Bq.Sz (2 + 2 * bS n b) (Bq.sumQ ((List.range k).map fun i => fQ (pN n (mf M) i) / fQ (pN n (mf M) 0) * bkQ l (stg n (mf M) (n - 1 - l)) i)) := by
  obtain ⟨f, hf, hs⟩ := h.term_red h1 hl
  have d : pW n M 0 * qN n (mf M) (n - l) < 2 ^ (2 + 2 * bS n b) := mul_lt2 (h.pW_lt (by omega)) (h.q_ltS (by omega)) (by omega)
  have d0 : 0 < pW n M 0 * qN n (mf M) (n - l) := Nat.mul_pos (h.pW_pos (by omega)) (h.q_pos (by omega))
  have u : sN l f < 2 ^ (2 + 2 * bS n b) := by
    rw [hs]
    exact mul_lt2 (h.pW_lt hl) (h.q_ltS (by omega)) (by omega)
  refine ⟨fun i hi => ?_, fun k hk => ?_⟩
  · rw [hf i hi]
    have := sN_ge (f := f) hi
    exact fQ_sz (by omega) d d0
  · have e : ((List.range k).map fun i => fQ (pN n (mf M) i) / fQ (pN n (mf M) 0) * bkQ l (stg n (mf M) (n - 1 - l)) i) = (List.range k).map fun i => fQ (f i) / fQ (pW n M 0 * qN n (mf M) (n - l)) := List.map_congr_left fun i hi => hf i (by have := List.mem_range.mp hi; omega)
    rw [e, sumQ_div f _ k]
    have le : sN k f ≤ sN l f := by
      by_cases c : k = l
      · rw [c]
        exact Nat.le_refl _
      · have := sN_two (f := f) (t := k) (j := k) (n := l) (Nat.le_refl _) (by omega)
        omega
    exact fQ_sz (by omega) d d0
theorem WkS.sh_sz (h : WkS b n M) {i : Nat} (hi : i < n) : Bq.Sz (4 + bS n b) (shQ n M i) := by
  rw [h.sh_eq hi]
  exact fQ_sz (Nat.lt_of_lt_of_le (h.pW_lt hi) (pow_le (by omega))) h.allW_lt h.allW_pos
theorem WkS.sh_pos (h : WkS b n M) {i : Nat} (hi : i < n) : 0 < shQ n M i := by
  unfold shQ
  exact div_pos (fQ_pos (h.pN_pos hi)) (fQ_pos h.all_pos)
theorem WkS.fl_eq (h : WkS b n M) {i : Nat} (hi : i < n) (j : Nat) : shQ n M i * chQ n (mf M) i j = fQ (flN n M i j) / fQ (allN n M) := by
  have r := fQ_ne (h.p i hi)
  unfold shQ chQ pN flN
  rw [fQ_mul, fQ_mul]
  generalize fQ (sN n (mf M i)) = a at *
  grind
theorem WkS.fl_eq2 (h : WkS b n M) {i : Nat} (hi : i < n) (j : Nat) : fQ (flN n M i j) / fQ (allN n M) = fQ (wN n (mf M) i * mf M i j) / fQ (allW n M) := by
  refine ratio_eq h.all_pos h.allW_pos ?_
  have e := h.allW_pN hi
  unfold flN
  unfold pW pN at e
  have s0 := h.p i hi
  have e2 : sN n (mf M i) * (wN n (mf M) i * allN n M) = sN n (mf M i) * (allW n M * sol n (mf M) i) := by
    generalize sN n (mf M i) = s at *
    generalize allN n M = x at *
    generalize allW n M = y at *
    grind
  have e3 := Nat.eq_of_mul_eq_mul_left s0 e2
  generalize allN n M = x at *
  generalize allW n M = y at *
  generalize wN n (mf M) i = a at *
  generalize sol n (mf M) i = b at *
  grind
theorem WkS.fl_sz (h : WkS b n M) {i j : Nat} (hi : i < n) (hj : j < n) : Bq.Sz (4 + bS n b) (fQ (flN n M i j) / fQ (allN n M)) := by
  rw [h.fl_eq2 hi j]
  exact fQ_sz (Nat.lt_of_lt_of_le (h.wM_lt hi hj) (pow_le (by omega))) h.allW_lt h.allW_pos
theorem WkS.b_le (h : WkS b n M) {i : Nat} (hi : i < n) : b i + 3 ≤ bS n b := sN_ge (f := fun i => b i + 3) hi
theorem WkS.ch0 (h : WkS b n M) {i j : Nat} (hi : i < n) (hj : j < n) : Bq.Sz (bS n b) (chQ n (mf M) i j) :=
  (fQ_sz (Nat.lt_of_lt_of_le (h.k i j hi hj) (pow_le (by omega))) (h.rs_lt hi) (h.p i hi) : Bq.Sz (b i + 3) _).mono (h.b_le hi)
theorem WkS.sh_one (h : WkS b n M) : Bq.sumQ ((List.range n).map (shQ n M)) = 1 := by
  have h1 := sumQ_div (pN n (mf M)) (fQ (allN n M)) n
  have h2 := fQ_ne h.all_pos
  show Bq.sumQ ((List.range n).map fun j => fQ (pN n (mf M) j) / fQ (allN n M)) = 1
  rw [h1]
  show fQ (allN n M) / fQ (allN n M) = 1
  grind
/-! ### the walk backwards -/
def bwM (n : Nat) (M : List (List Nat)) : List (List Nat) := (List.range n).map fun i => (List.range n).map fun j => wN n (mf M) j * mf M j i
theorem bwM_at {i j : Nat} (hi : i < n) (hj : j < n) : mf (bwM n M) i j = wN n (mf M) j * mf M j i := by
  have e : (bwM n M)[i]? = some ((List.range n).map fun j => wN n (mf M) j * mf M j i) := by
    unfold bwM
    rw [List.getElem?_map, List.getElem?_range hi]
    rfl
  rw [mf_row e]
  show ((List.range n).map fun j => wN n (mf M) j * mf M j i).getD j 0 = _
  rw [List.getD_eq_getElem?_getD, List.getElem?_map, List.getElem?_range hj]
  rfl
theorem WkS.w_bal (h : WkS b n M) {i : Nat} (hi : i < n) : sN n (fun j => wN n (mf M) j * mf M j i) = pW n M i := by
  have b := sol_bal (mf M) h.n1 i hi
  have e : ∀ j, j < n → wN n (mf M) j * mf M j i * sol n (mf M) i = wN n (mf M) i * (sol n (mf M) j * mf M j i) := fun j hj => by
    have := h.w_sol hj hi
    rw [Nat.mul_right_comm, this, Nat.mul_assoc]
  have e2 : sN n (fun j => wN n (mf M) j * mf M j i) * sol n (mf M) i = pW n M i * sol n (mf M) i := by
    rw [← sN_mul, sN_congr fun j hj => e j hj, sN_mulL, b]
    unfold pW
    rw [Nat.mul_right_comm, Nat.mul_assoc]
  exact Nat.eq_of_mul_eq_mul_right (sol_pos h.st i hi) e2
theorem WkS.bw_sum (h : WkS b n M) {i : Nat} (hi : i < n) : sN n (mf (bwM n M) i) = pW n M i := by
  rw [← h.w_bal hi]
  exact sN_congr fun j hj => bwM_at hi hj
theorem WkS.bw_ch (h : WkS b n M) {i j : Nat} (hi : i < n) (hj : j < n) : chQ n (mf (bwM n M)) i j = fQ (wN n (mf M) j * mf M j i) / fQ (pW n M i) := by
  unfold chQ
  rw [bwM_at hi hj, h.bw_sum hi]
/-- backwards: the flow the other way over the share -/
theorem WkS.bw_fl (h : WkS b n M) {i j : Nat} (hi : i < n) (hj : j < n) : fQ (flN n M j i) / fQ (allN n M) / shQ n M i = chQ n (mf (bwM n M)) i j := by
  rw [h.fl_eq2 hj i, h.sh_eq hi, h.bw_ch hi hj]
  have z1 := fQ_ne h.allW_pos
  have z2 := fQ_ne (h.pW_pos hi)
  generalize fQ (allW n M) = a at *
  generalize fQ (pW n M i) = b at *
  generalize fQ (wN n (mf M) j * mf M j i) = c
  grind
theorem WkS.bw_str (h : WkS b n M) : StrN n (mf (bwM n M)) := by
  intro a b ha hb
  have r := Reach.back (E := fun x y => EdN n (mf M) y x) (h.st b a hb ha)
  refine Reach.mono (fun x y e => ?_) r
  obtain ⟨e1, e2, e3⟩ := e
  refine ⟨e2, e1, ?_⟩
  rw [bwM_at e2 e1]
  exact Nat.mul_pos (h.w_eq e1).2 e3
theorem WkS.bw (h : WkS b n M) (hC : n * (bS n b + 1) ≤ 2200) : WkS (fun _ => bS n b - 2) n (bwM n M) := by
  have b3 := h.b_le (i := 0) (by have := h.n1; omega)
  refine ⟨h.n1, h.n6, ?_, by unfold bwM; simp, fun row hr => ?_, fun i j hi hj => ?_, h.bw_str, fun i hi => by rw [h.bw_sum hi]; exact h.pW_pos hi⟩
  · rw [sN_cst]
    have : bS n b - 2 + 3 = bS n b + 1 := by omega
    rw [this]
    exact hC
  · unfold bwM at hr
    obtain ⟨i, _, rfl⟩ := List.mem_map.mp hr
    simp
  · rw [bwM_at hi hj]
    exact h.wM_lt hj hi
theorem bw_col (h : WkS b n M) {j : Nat} (hj : j < n) : sN n (fun i => mf (bwM n M) i j) = sN n (mf (bwM n M) j) := by
  rw [h.bw_sum hj]
  have e : sN n (fun i => mf (bwM n M) i j) = sN n (fun i => wN n (mf M) j * mf M j i) := sN_congr fun i hi => bwM_at hi hj
  rw [e, sN_mulL]
  rfl
/-- it has the same shares -/
theorem WkS.bw_sh (h : WkS b n M) {c : Nat → Nat} (hb : WkS c n (bwM n M)) {i : Nat} (hi : i < n) : shQ n (bwM n M) i = shQ n M i := by
  have one : ∀ j, j < n → sZ n (fun i => (1 : Int) * lap n (mf (bwM n M)) i j) = 0 := fun j hj => by
    have e : (fun i => (1 : Int) * lap n (mf (bwM n M)) i j) = fun i => (if j = i then ((sN n (mf (bwM n M) j) : Nat) : Int) else 0) + (-1) * ((mf (bwM n M) i j : Nat) : Int) := by
      funext i
      unfold lap
      by_cases c : i = j
      · rw [if_pos c, if_pos c.symm, c]
        omega
      · rw [if_neg c, if_neg fun z => c z.symm]
        omega
    rw [e, sZ_lin, sZ_one (a := j) hj fun i _ ne => if_neg (Ne.symm ne), if_pos rfl, sZ_nat, bw_col h hj]
    omega
  have key : ∀ a b, a < n → b < n → sol n (mf (bwM n M)) a = sol n (mf (bwM n M)) b := fun a b ha hb' => by
    have := rest_one hb.st (x := fun i => (sol n (mf (bwM n M)) i : Int)) (y := fun _ => 1) (fun _ _ => by omega) (fun j hj => sol_rest hj) one ha hb'
    omega
  unfold shQ
  have e1 : ∀ j, j < n → pN n (mf (bwM n M)) j = sol n (mf (bwM n M)) 0 * pW n M j := fun j hj => by
    unfold pN
    rw [h.bw_sum hj, key j 0 hj (by omega)]
  have e2 : allN n (bwM n M) = sol n (mf (bwM n M)) 0 * allW n M := by
    unfold allN allW
    rw [← sN_mulL]
    exact sN_congr e1
  have s0 := sol_pos hb.st 0 (by omega)
  refine ratio_eq hb.all_pos h.all_pos ?_
  rw [e1 i hi, e2, Nat.mul_assoc, h.allW_pN hi]
  generalize sol n (mf (bwM n M)) 0 = a
  generalize allW n M = b
  generalize pN n (mf M) i = c
  grind
end
end Bw
set_option exponentiation.threshold 4000
/-! Part 33. The walk by toss is such a walk, and its own walk backwards. Plain mathematics. -/
namespace Bw
theorem WkS.wide {b c : Nat → Nat} {n : Nat} {M : List (List Nat)} (h : WkS b n M) (hb : ∀ i, i < n → b i ≤ c i) (hS : bS n c ≤ 2200) : WkS c n M :=
  ⟨h.n1, h.n6, hS, h.l, h.r, fun i j hi hj => Nat.lt_of_lt_of_le (h.k i j hi hj) (pow_le (hb i hi)), h.st, h.p⟩
/-- a walk drawn from a square of numbers below 2 ^ B -/
abbrev WkB (B n : Nat) (M : List (List Nat)) : Prop := WkS (fun _ => B) n M
section
variable {B n : Nat} {M : List (List Nat)}
theorem bS_cst (n B : Nat) : bS n (fun _ => B) = n * (B + 3) := sN_cst (B + 3) n
theorem WkB.lim (h : WkB B n M) : n * (B + 3) ≤ 2200 := by
  have := WkS.hS h
  rwa [show (sN n fun i => (fun _ => B) i + 3) = n * (B + 3) from bS_cst n B] at this
theorem WkB.rs_lt (h : WkB B n M) {i : Nat} (hi : i < n) : sN n (mf M i) < 2 ^ (B + 3) := WkS.rs_lt h hi
theorem WkB.k (h : WkB B n M) (i j : Nat) (hi : i < n) (hj : j < n) : mf M i j < 2 ^ B := WkS.k h i j hi hj
theorem WkB.ch0B (h : WkB B n M) {i j : Nat} (hi : i < n) (hj : j < n) : Bq.Sz (B + 3) (chQ n (mf M) i j) :=
  fQ_sz (Nat.lt_of_lt_of_le (h.k i j hi hj) (pow_le (by omega))) (h.rs_lt hi) (h.p i hi)
theorem WkB.w_lt (h : WkB B n M) {i : Nat} (hi : i < n) : wN n (mf M) i < 2 ^ (1 + (n - 1) * (B + 3)) := by
  obtain ⟨e, h1, h2⟩ := WkS.w_lt h hi
  have h3 : e + (B + 3) = n * (B + 3) := h2.trans (bS_cst n B)
  obtain ⟨k, rfl⟩ : ∃ k, n = k + 1 := ⟨n - 1, by omega⟩
  rw [Nat.succ_mul] at h3
  rw [Nat.add_sub_cancel]
  have : e = k * (B + 3) := by omega
  rw [← this]
  exact h1
theorem WkB.sh_szB (h : WkB B n M) {i : Nat} (hi : i < n) : Bq.Sz (4 + n * (B + 3)) (shQ n M i) := by
  have := WkS.sh_sz h hi
  rwa [bS_cst] at this
theorem WkB.fl_szB (h : WkB B n M) {i j : Nat} (hi : i < n) (hj : j < n) : Bq.Sz (4 + n * (B + 3)) (fQ (flN n M i j) / fQ (allN n M)) := by
  have := WkS.fl_sz h hi hj
  rwa [bS_cst] at this
end
/-! ### squares alike both ways -/
section
variable {b : Nat → Nat} {n : Nat} {T : List (List Nat)}
theorem WkS.sy_col (h : WkS b n T) (sy : ∀ i j, i < n → j < n → mf T i j = mf T j i) {j : Nat} (hj : j < n) : sN n (fun i => mf T i j) = sN n (mf T j) := sN_congr fun i hi => sy i j hi hj
theorem WkS.sy_sol (h : WkS b n T) (sy : ∀ i j, i < n → j < n → mf T i j = mf T j i) {i j : Nat} (hi : i < n) (hj : j < n) : sol n (mf T) i = sol n (mf T) j := by
  have one : ∀ j, j < n → sZ n (fun i => (1 : Int) * lap n (mf T) i j) = 0 := fun j hj => by
    have e : (fun i => (1 : Int) * lap n (mf T) i j) = fun i => (if j = i then ((sN n (mf T j) : Nat) : Int) else 0) + (-1) * ((mf T i j : Nat) : Int) := by
      funext i
      unfold lap
      by_cases c : i = j
      · rw [if_pos c, if_pos c.symm, c]
        omega
      · rw [if_neg c, if_neg fun z => c z.symm]
        omega
    rw [e, sZ_lin, sZ_one (a := j) hj fun i _ ne => if_neg (Ne.symm ne), if_pos rfl, sZ_nat, h.sy_col sy hj]
    omega
  have := rest_one h.st (x := fun i => (sol n (mf T) i : Int)) (y := fun _ => 1) (fun _ _ => by omega) (fun j hj => sol_rest hj) one hi hj
  omega
theorem WkS.sy_w (h : WkS b n T) (sy : ∀ i j, i < n → j < n → mf T i j = mf T j i) {i j : Nat} (hi : i < n) (hj : j < n) : wN n (mf T) i = wN n (mf T) j := by
  have e := h.w_sol hi hj
  rw [h.sy_sol sy hi hj] at e
  exact Nat.eq_of_mul_eq_mul_right (sol_pos h.st j hj) e
/-- its flows are alike both ways -/
theorem WkS.sy_fl (h : WkS b n T) (sy : ∀ i j, i < n → j < n → mf T i j = mf T j i) {i j : Nat} (hi : i < n) (hj : j < n) : flN n T i j = flN n T j i := by
  unfold flN
  rw [h.sy_sol sy hi hj, sy i j hi hj]
/-- it is its own walk backwards -/
theorem WkS.sy_bw (h : WkS b n T) (sy : ∀ i j, i < n → j < n → mf T i j = mf T j i) {i j : Nat} (hi : i < n) (hj : j < n) : chQ n (mf (bwM n T)) i j = chQ n (mf T) i j := by
  rw [h.bw_ch hi hj]
  unfold chQ pW
  rw [h.sy_w sy hj hi, sy j i hj hi, fQ_mul, fQ_mul]
  have z1 := fQ_ne (h.w_eq hi).2
  have z2 := fQ_ne (h.p i hi)
  generalize fQ (wN n (mf T) i) = a at *
  generalize fQ (mf T i j) = c at *
  generalize fQ (sN n (mf T i)) = d at *
  grind
theorem WkS.sy_sh (h : WkS b n T) (sy : ∀ i j, i < n → j < n → mf T i j = mf T j i) {i : Nat} (hi : i < n) : shQ n T i = fQ (sN n (mf T i)) / fQ (sN n fun j => sN n (mf T j)) := by
  have e1 : ∀ j, j < n → pN n (mf T) j = sol n (mf T) 0 * sN n (mf T j) := fun j hj => by
    unfold pN
    rw [h.sy_sol sy hj (show 0 < n by omega)]
  have e2 : allN n T = sol n (mf T) 0 * sN n fun j => sN n (mf T j) := by
    unfold allN
    rw [← sN_mulL]
    exact sN_congr e1
  unfold shQ
  have a0 : 0 < sN n fun j => sN n (mf T j) := sN_pos (i := i) hi (h.p i hi)
  refine ratio_eq h.all_pos a0 ?_
  rw [e1 i hi, e2]
  generalize sol n (mf T) 0 = a
  generalize sN n (mf T i) = c
  generalize (sN n fun j => sN n (mf T j)) = d
  grind
end
/-! ### the walk by toss -/
theorem sN_part {f : Nat → Nat} {k n : Nat} (h : k ≤ n) : sN k f ≤ sN n f := by
  by_cases c : k = n
  · rw [c]
    exact Nat.le_refl _
  · have := sN_two (f := f) (t := k) (j := k) (n := n) (Nat.le_refl _) (by omega)
    omega
theorem take_mr {α : Type} (f : Nat → α) (l i : Nat) : ((List.range l).map f).take i = (List.range (min i l)).map f := by
  rw [← List.map_take, List.take_range]
theorem WkS.fl_part {b : Nat → Nat} {n : Nat} {M : List (List Nat)} (h : WkS b n M) {i k : Nat} (hi : i < n) (hk : k ≤ n) : Bq.Sz (4 + bS n b) (Bq.sumQ ((List.range k).map fun j => fQ (flN n M j i) / fQ (allN n M))) := by
  have e : ((List.range k).map fun j => fQ (flN n M j i) / fQ (allN n M)) = (List.range k).map fun j => fQ (wN n (mf M) j * mf M j i) / fQ (allW n M) := List.map_congr_left fun j hj => h.fl_eq2 (by have := List.mem_range.mp hj; omega) i
  rw [e, sumQ_div (fun j => wN n (mf M) j * mf M j i) (fQ (allW n M)) k]
  have le := sN_part (f := fun j => wN n (mf M) j * mf M j i) hk
  have e2 := h.w_bal hi
  have lt := h.pW_lt hi
  have p : 2 ^ (1 + bS n b) ≤ 2 ^ (4 + bS n b) := pow_le (by omega)
  exact fQ_sz (by omega) h.allW_lt h.allW_pos
section
variable {b : Nat → Nat} {n : Nat} {M : List (List Nat)}
def tsM (n : Nat) (M : List (List Nat)) : List (List Nat) := (List.range n).map fun i => (List.range n).map fun j => wN n (mf M) i * mf M i j + wN n (mf M) j * mf M j i
theorem tsM_at {i j : Nat} (hi : i < n) (hj : j < n) : mf (tsM n M) i j = wN n (mf M) i * mf M i j + wN n (mf M) j * mf M j i := by
  have e : (tsM n M)[i]? = some ((List.range n).map fun j => wN n (mf M) i * mf M i j + wN n (mf M) j * mf M j i) := by
    unfold tsM
    rw [List.getElem?_map, List.getElem?_range hi]
    rfl
  rw [mf_row e]
  show ((List.range n).map fun j => wN n (mf M) i * mf M i j + wN n (mf M) j * mf M j i).getD j 0 = _
  rw [List.getD_eq_getElem?_getD, List.getElem?_map, List.getElem?_range hj]
  rfl
theorem tsM_sy {i j : Nat} (hi : i < n) (hj : j < n) : mf (tsM n M) i j = mf (tsM n M) j i := by
  rw [tsM_at hi hj, tsM_at hj hi, Nat.add_comm]
theorem WkS.ts_sum (h : WkS b n M) {i : Nat} (hi : i < n) : sN n (mf (tsM n M) i) = 2 * pW n M i := by
  have e : sN n (mf (tsM n M) i) = sN n fun j => wN n (mf M) i * mf M i j + wN n (mf M) j * mf M j i := sN_congr fun j hj => tsM_at hi hj
  rw [e, sN_add, h.w_bal hi, sN_mulL]
  show wN n (mf M) i * sN n (mf M i) + _ = _
  unfold pW
  omega
theorem WkS.ts_str (h : WkS b n M) : StrN n (mf (tsM n M)) := by
  intro a c ha hc
  refine Reach.mono (fun x y e => ?_) (h.st a c ha hc)
  obtain ⟨e1, e2, e3⟩ := e
  refine ⟨e1, e2, ?_⟩
  rw [tsM_at e1 e2]
  have := Nat.mul_pos (h.w_eq e1).2 e3
  omega
theorem WkS.ts (h : WkS b n M) (hC : n * (bS n b + 2) ≤ 2200) : WkB (bS n b - 1) n (tsM n M) := by
  have b3 := h.b_le (i := 0) (by have := h.n1; omega)
  refine ⟨h.n1, h.n6, ?_, by unfold tsM; simp, fun row hr => ?_, fun i j hi hj => ?_, h.ts_str, fun i hi => by rw [h.ts_sum hi]; have := h.pW_pos hi; omega⟩
  · rw [sN_cst]
    have : bS n b - 1 + 3 = bS n b + 2 := by omega
    rw [this]
    exact hC
  · unfold tsM at hr
    obtain ⟨i, _, rfl⟩ := List.mem_map.mp hr
    simp
  · rw [tsM_at hi hj]
    have h1 := h.wM_lt hi hj
    have h2 := h.wM_lt hj hi
    show _ < 2 ^ (bS n b - 1)
    have e : bS n b - 1 = (bS n b - 2) + 1 := by omega
    rw [e, Nat.pow_succ]
    omega
/-- half the sum of the walk and the walk backwards -/
theorem WkS.ts_ch (h : WkS b n M) {i j : Nat} (hi : i < n) (hj : j < n) : chQ n (mf (tsM n M)) i j = (chQ n (mf M) i j + chQ n (mf (bwM n M)) i j) / 2 := by
  rw [h.bw_ch hi hj]
  unfold chQ
  rw [h.ts_sum hi, tsM_at hi hj]
  unfold pW
  rw [fQ_add, fQ_mul 2, fQ_mul (wN n (mf M) i), fQ_mul (wN n (mf M) i)]
  have z1 := fQ_ne (h.w_eq hi).2
  have z2 := fQ_ne (h.p i hi)
  have z3 : fQ 2 = 2 := rfl
  rw [z3]
  generalize fQ (wN n (mf M) i) = a at *
  generalize fQ (mf M i j) = c at *
  generalize fQ (sN n (mf M i)) = d at *
  generalize fQ (wN n (mf M) j * mf M j i) = f at *
  grind
/-- it has the same shares -/
theorem WkS.ts_sh (h : WkS b n M) {c : Nat → Nat} (ht : WkS c n (tsM n M)) {i : Nat} (hi : i < n) : shQ n (tsM n M) i = shQ n M i := by
  rw [ht.sy_sh (fun i j hi hj => tsM_sy hi hj) hi, h.sh_eq hi, h.ts_sum hi]
  have e : (sN n fun j => sN n (mf (tsM n M) j)) = 2 * allW n M := by
    unfold allW
    rw [← sN_mulL]
    exact sN_congr fun j hj => h.ts_sum hj
  rw [e, fQ_mul, fQ_mul]
  have z1 := fQ_ne h.allW_pos
  have z3 : fQ 2 = 2 := rfl
  rw [z3]
  generalize fQ (allW n M) = a at *
  generalize fQ (pW n M i) = c at *
  grind
/-- its chances are no longer than the flows of the walk -/
theorem WkS.ts_chz (h : WkS b n M) {i j : Nat} (hi : i < n) (hj : j < n) : Bq.Sz (2 + bS n b) (chQ n (mf (tsM n M)) i j) := by
  have b3 := h.b_le hi
  unfold chQ
  rw [h.ts_sum hi, tsM_at hi hj]
  have h1 := h.wM_lt hi hj
  have h2 := h.wM_lt hj hi
  have h3 := h.pW_lt hi
  have p1 : 2 ^ (bS n b - 2) * 2 ^ 4 = 2 ^ (2 + bS n b) := by
    rw [← Nat.pow_add]
    congr 1
    omega
  have p2 : 2 ^ (2 + bS n b) = 2 * 2 ^ (1 + bS n b) := by
    have : 2 + bS n b = (1 + bS n b) + 1 := by omega
    rw [this, Nat.pow_succ, Nat.mul_comm]
  exact fQ_sz (by omega) (by omega) (by have := h.pW_pos hi; omega)
end
end Bw
/-! Part 27. repr of a tuple of data. -/
namespace Bw
open PySem PySem.Spec PyProof.Rows L2
section
variable {prog : Program} {w : World} {h₀ : Heap}
theorem repr_tup {a : Addr} {xs : List PyData} {A : Around} {E : Value → Shared → Prop} {s : Shared} {Q : Value → Shared → Prop}
    (r : RdS s.heap (.ref a) (.tuple xs)) (hs : PyData.showableAll xs = true) (hz : (PyData.tuple xs).shown.length ≤ sizeLine)
    (hg : A.guards = some []) (hu : A.units + ((PyData.tuple xs).depth + 1) < cLine)
    (hQ : ∀ h' u tk, (∀ b o, s.heap.get? b = some o → h'.get? b = some o) → Q (.str (PyData.tuple xs).shown u) { s with heap := h', toks := tk }) :
    wpAny (model prog w) A (call (.builtin "repr") [.ref a]) Q E s := by
  have deep : PyData.depthAll xs < (PyData.tuple xs).depth := by simp only [PyData.depth]; omega
  obtain ⟨_, rr⟩ := r.reads
  cases r with
  | tuple h1 h2 h3 h4 =>
    rename_i o vs n
    have hz' : (tupleText (PyData.shownAll xs)).length ≤ sizeLine := by simpa only [PyData.shown] using hz
    obtain ⟨bs, hb, hk⟩ := RdSAll.reprK (prog := prog) (w := w) h4 hs fun t ht => Nat.le_trans (tupleText_mem_le ht) hz'
    simp only [PyData.depth] at hu
    simp only [PyData.shown] at hQ
    refine call_repr_slot (by omega) ⟨o, h1, h2⟩ F.slot_tuple_repr ?_
    exact call_tuple_reprK h1 h2 h3 (not_mem_of_deeper rr deep hb) hk
        hg (fun b _ => Clear.nil b) (by show A.units + 1 + (PyData.depthAll xs + 1) < cLine; omega) (fun _ _ e => e)
        (fun h' u tk hk => ⟨_, _, rfl, hQ h' u tk hk⟩) hz'
end
section
variable {X : Cx}
/-- repr(xs), xs a tuple of data -/
def rReprT : List V → Hp → VK → Prop := fun vs H Q => ∃ (W : Addr → Prop) (v : V) (xs : List PyData), vs = [v] ∧ Dq W H v (.tuple xs) ∧ PyData.showableAll xs = true ∧
  (PyData.tuple xs).shown.length ≤ sizeLine ∧ (PyData.tuple xs).depth ≤ 60 ∧ Q (.str (PyData.tuple xs).shown) H
theorem call_reprT {k : Nat} (hG : X.A.guards = some []) (hr : Room k X.A) : CallR X (.builtin "repr") rReprT := by
  intro pins s σ H xs us Q I r h
  obtain ⟨W, v, ds, rfl, hd, hs, hz, hdp, q⟩ := h
  obtain ⟨u, rfl, ru⟩ := Vals.one r
  have hu := hr.units
  cases hd with
  | tup n e h =>
    have rr := Dq.rds I u (.tup n e h) ru
    obtain rfl : u = _ := ru
    exact repr_tup rr hs hz hG (by omega) fun h' t tk hk => ⟨.str _, H, I.kept (t' := tk) hk, ⟨t, rfl⟩, q⟩
end
end Bw
set_option exponentiation.threshold 4000
/-! A drawn weight (second family of drawings). -/
namespace Kx
open PySem PySem.Spec PyProof.Rows L2 Bw
abbrev s_law_heft : Stmt := topS 38
abbrev n_law_heft : List Str := ["well", "way"]
theorem c_law_heft : FnScope n_law_heft ["well"] (defScope s_law_heft) :=
  ⟨rfl, rfl, rfl, by decide +kernel, rfl, by decide +kernel, by decide +kernel⟩

def hf11 : List PyData := [.tuple [.int 1, .int 1], .tuple [.int 2, .int 1], .tuple [.int 1, .int 1], .tuple [.int 3, .int 1], .tuple [.int 1, .int 2], .tuple [.int 1, .int 1], .tuple [.int 2, .int 1], .tuple [.int 3, .int 2], .tuple [.int 1, .int 3], .tuple [.int 1, .int 1], .tuple [.int 2, .int 1]]
theorem hf11_ok : ∀ j, j < 11 → ∃ a b : Nat, 0 < a ∧ a < 5 ∧ 0 < b ∧ b < 5 ∧ Nat.gcd a b = 1 ∧ hf11[j]? = some (.tuple [.int (a : Nat), .int (b : Nat)])
  | 0, _ => ⟨1, 1, by decide, by decide, by decide, by decide, by decide, rfl⟩
  | 1, _ => ⟨2, 1, by decide, by decide, by decide, by decide, by decide, rfl⟩
  | 2, _ => ⟨1, 1, by decide, by decide, by decide, by decide, by decide, rfl⟩
  | 3, _ => ⟨3, 1, by decide, by decide, by decide, by decide, by decide, rfl⟩
  | 4, _ => ⟨1, 2, by decide, by decide, by decide, by decide, by decide, rfl⟩
  | 5, _ => ⟨1, 1, by decide, by decide, by decide, by decide, by decide, rfl⟩
  | 6, _ => ⟨2, 1, by decide, by decide, by decide, by decide, by decide, rfl⟩
  | 7, _ => ⟨3, 2, by decide, by decide, by decide, by decide, by decide, rfl⟩
  | 8, _ => ⟨1, 3, by decide, by decide, by decide, by decide, by decide, rfl⟩
  | 9, _ => ⟨1, 1, by decide, by decide, by decide, by decide, by decide, rfl⟩
  | 10, _ => ⟨2, 1, by decide, by decide, by decide, by decide, by decide, rfl⟩
  | j + 11, h => by omega
section
variable {P : Program} {w : World} {K : PySem.W.Frag} {mg : Str → Option Value} {base : Heap}
/-- a number that a weight is -/
def WtQ (q : Rat) : Prop := 0 ≤ q ∧ q.num < 2 ^ 20 ∧ q.den ≤ 60
def spHeft : Sp := fun vs H Q _ => ∃ (w l : Addr), vs = [.ref w] ∧ WellAt w l H ∧
  ∀ (H' : Hp) (l' p : Addr) (q : Rat), 0 < q → WtQ q → Kp (At w) H H' → WellAt w l' H' → (l' = l ∨ H l' = none) → p ≠ w → H' p = some (.tup [.int q.num, .int q.den]) → Q (.ref p) H'
theorem ok_lheft {f : Addr} {fd : FuncData} (F : Fun K "_law_heft" "_law_heft" s_law_heft f fd) (M : Mb mg) (Dlaw_draw : Df P w K mg base 1 "_law_draw" ["well", "limit"] spPickL) (Dlaw_low : Df P w K mg base 1 "_law_low" ["up", "down"] spLowest) :
    FnOk P w K mg base CX0 2 f fd ["well"] spHeft := by
  refine F.ok c_law_heft (fun vs H Q E h => ?_) (fun cdv A outer s H vs Q E hr h => ?_)
  · obtain ⟨w, l, rfl, _⟩ := h
    rfl
  · obtain ⟨w, l, rfl, hW, q⟩ := h
    refine ⟨_, (pss_cons (ps_set (i := 1) c_law_heft.nd rfl (.inl rfl) (pe_call Dlaw_draw.G (hr.mono (by first | decide | omega)) rfl Dlaw_draw.g Dlaw_draw.kp Dlaw_draw.b .nil pass0 (pa_cons (pv 0) (pa_cons pe_int pa_nil))))
 (pss_cons (ps_if (pt_cmpR op_lt (pv 1) pe_int (nomark _))
 (pss_one (ps_ret (pe_ix ix_tup (pe_tup (pa_cons (pe_tup (pa_cons pe_int (pa_cons pe_int pa_nil))) (pa_cons (pe_tup (pa_cons pe_int (pa_cons pe_int pa_nil))) (pa_cons (pe_tup (pa_cons pe_int (pa_cons pe_int pa_nil))) (pa_cons (pe_tup (pa_cons pe_int (pa_cons pe_int pa_nil))) (pa_cons (pe_tup (pa_cons pe_int (pa_cons pe_int pa_nil))) (pa_cons (pe_tup (pa_cons pe_int (pa_cons pe_int pa_nil))) (pa_cons (pe_tup (pa_cons pe_int (pa_cons pe_int pa_nil))) (pa_cons (pe_tup (pa_cons pe_int (pa_cons pe_int pa_nil))) (pa_cons (pe_tup (pa_cons pe_int (pa_cons pe_int pa_nil))) (pa_cons (pe_tup (pa_cons pe_int (pa_cons pe_int pa_nil))) (pa_cons (pe_tup (pa_cons pe_int (pa_cons pe_int pa_nil))) pa_nil)))))))))))) (pv 1) (fun _ _ => rfl))))
 pss_nil)
 (pss_one (ps_ret (pe_call Dlaw_low.G (hr.mono (by first | decide | omega)) rfl Dlaw_low.g Dlaw_low.kp Dlaw_low.b .nil pass0 (pa_cons (pe_op op_add pe_int (pe_call Dlaw_draw.G (hr.mono (by first | decide | omega)) rfl Dlaw_draw.g Dlaw_draw.kp Dlaw_draw.b .nil pass0 (pa_cons (pv 0) (pa_cons pe_int pa_nil)))) (pa_cons (pe_op op_add pe_int (pe_call Dlaw_draw.G (hr.mono (by first | decide | omega)) rfl Dlaw_draw.g Dlaw_draw.kp Dlaw_draw.b .nil pass0 (pa_cons (pv 0) (pa_cons pe_int pa_nil)))) pa_nil))))))), ?_⟩
    have up : ∀ {H' H'' : Hp} {a b c : Addr}, (a = l ∨ H a = none) → (b = a ∨ H' b = none) → Kp (At w) H H' → WellAt w b H'' → (b = l ∨ H b = none) := fun {H' H'' a b c} ha hb k W => by
      rcases hb with hb | hb
      · rw [hb]
        exact ha
      · exact .inr (kp_free k hb (by
          obtain ⟨_, _, _, _, e, _⟩ := W
          exact e))
    refine ⟨_, rfl, w, l, _, rfl, by omega, by omega, hW, fun H1 d l1 d0 d1 k1 W1 hl1 => ?_⟩
    obtain ⟨i, rfl⟩ : ∃ i : Nat, d = (i : Int) := ⟨d.toNat, by omega⟩
    refine ⟨_, rfl, _, _, rfl, rfl, _, rfl, ite2 (fun c => ?_) (fun c => ?_)⟩
    · dsimp only [tRet, tOp]
      refine (evd_tup (ds := hf11) ?_ (by decide)) H1 _ fun v H2 s2 e2 => ?_
      · unfold hf11
        repeat (first | exact evds_nil | refine evds_cons ?_ ?_ | exact evd_int | refine evd_tup ?_ (by decide))
      · cases e2 with
        | tup na ea el =>
          rename_i a xs
          have hll : xs.length = 11 := el.length
          obtain ⟨j, hj, ej⟩ : ∃ j : Nat, j < 11 ∧ (i : Int) = (j : Int) := ⟨i, by
            have := of_decide_eq_true c
            omega, rfl⟩
          have ex : xs[j]? = some (xs[j]'(by omega)) := List.getElem?_eq_getElem (by omega)
          obtain ⟨dd, hd, dv⟩ := el.at ex
          obtain ⟨x, y, x0, x5, y0, y5, g, e3⟩ := hf11_ok j hj
          rw [e3] at hd
          obtain rfl := Option.some.inj hd
          obtain ⟨b, ys, eb, nb, eb2, er⟩ := dv.tupI
          obtain ⟨v1, v2, rfl, dx, dy⟩ := er.two
          rw [dx.intI, dy.intI] at eb2
          rw [eb] at ex
          have W2 := well_sameS W1 s2
          obtain ⟨qq, h1, h2⟩ := (Bq.low_iff (a := (x : Int)) (b := (y : Int)) (by omega)).mp (by
            show Nat.gcd (x : Int).natAbs (y : Int).natAbs = 1
            rw [Int.natAbs_natCast, Int.natAbs_natCast]
            exact g)
          have hw1 : H1 w ≠ none := by
            obtain ⟨_, _, _, e, _⟩ := W1
            rw [e]
            exact fun z => nomatch z
          refine ⟨_, rfl, a, xs, _, _, rfl, rfl, .of ea, by rw [ej]; exact atI_nat ex, ?_⟩
          refine q _ l1 b qq (Bq.num_pos.mp (by rw [← h1]; omega)) ⟨Rat.le_of_lt (Bq.num_pos.mp (by rw [← h1]; omega)), by rw [← h1]; omega, by omega⟩ (k1.trans (Kp.same s2)) W2 hl1 (fun z => nb (by rw [z]; exact hw1)) ?_
          rw [eb2, h1, h2]
    · refine ⟨_, rfl, w, l1, _, rfl, by omega, by omega, W1, fun H2 e l2 e0 e1 k2 W2 hl2 => ⟨_, _, rfl, rfl, ?_⟩⟩
      obtain ⟨j, rfl⟩ : ∃ j : Nat, e = (j : Int) := ⟨e.toNat, by omega⟩
      refine ⟨_, rfl, w, l2, _, rfl, by omega, by omega, W2, fun H3 g l3 g0 g1 k3 W3 hl3 => ⟨_, _, rfl, rfl, _, _, 7, rfl, by omega, by omega, by decide, fun p np => ?_⟩⟩
      obtain ⟨u, rfl⟩ : ∃ u : Nat, g = (u : Int) := ⟨g.toNat, by omega⟩
      have q2 := up (c := w) hl1 hl2 k1 W2
      have q3 := up (c := w) q2 hl3 (k1.trans k2) W3
      have hb : (0 : Int) < 1 + (u : Int) := by omega
      have n1 := Bq.q_num (a := 1 + (j : Int)) hb
      have n2 := Bq.q_den (a := 1 + (j : Int)) hb
      have le1 : (Rat.divInt (1 + (j : Int)) (1 + (u : Int))).num ≤ 1 + (j : Int) := by
        rw [n1]
        exact Int.ediv_le_self _ (by omega)
      have le2 : ((Rat.divInt (1 + (j : Int)) (1 + (u : Int))).den : Int) ≤ 1 + (u : Int) := by
        rw [n2]
        exact Int.ediv_le_self _ (by omega)
      have pos : 0 < Rat.divInt (1 + (j : Int)) (1 + (u : Int)) := by
        rw [Rat.divInt_eq_div]
        exact div_pos (by exact_mod_cast (show (0 : Int) < 1 + (j : Int) by omega)) (by exact_mod_cast hb)
      exact q _ l3 p _ pos ⟨Rat.le_of_lt pos, by omega, by omega⟩ (((k1.trans k2).trans k3).trans (Kp.new np)) (W3.new np) q3 (W3.ne np).1 upd_same
end
end Kx
set_option exponentiation.threshold 4000
/-! A drawn wheel (second family of drawings). -/
namespace Kx
open PySem PySem.Spec PyProof.Rows L2 Bw
abbrev s_law_wheel : Stmt := topS 42
abbrev n_law_wheel : List Str := ["well", "size", "order", "found", "turn", "at", "each"]
theorem c_law_wheel : FnScope n_law_wheel ["well", "size"] (defScope s_law_wheel) :=
  ⟨rfl, rfl, rfl, by decide +kernel, rfl, by decide +kernel, by decide +kernel⟩

theorem sqM_at {n : Nat} {f : Nat → Nat → Nat} {i j : Nat} (hi : i < n) (hj : j < n) : mf ((List.range n).map fun i => (List.range n).map fun j => f i j) i j = f i j := by
  have e : ((List.range n).map fun i => (List.range n).map fun j => f i j)[i]? = some ((List.range n).map fun j => f i j) := by
    rw [List.getElem?_map, List.getElem?_range hi]
    rfl
  rw [mf_row e]
  show ((List.range n).map fun j => f i j).getD j 0 = _
  rw [List.getD_eq_getElem?_getD, List.getElem?_map, List.getElem?_range hj]
  rfl
theorem sN_delta (i0 c : Nat) : ∀ n, sN n (fun i => if i = i0 then c else 0) = if i0 < n then c else 0
  | 0 => by
    rw [if_neg (by omega)]
    rfl
  | n + 1 => by
    rw [sN, sN_delta i0 c n]
    by_cases e : n = i0
    · rw [if_pos e, if_neg (by omega), if_pos (by omega)]
      omega
    · rw [if_neg e]
      by_cases e2 : i0 < n
      · rw [if_pos e2, if_pos (by omega)]
        omega
      · rw [if_neg e2, if_neg (by omega)]
theorem atI_endS {xs : List V} {v : V} (h : 0 < xs.length) (e : xs[xs.length - 1]? = some v) : atI xs (-1) = some v := by
  have hl : xs.length - 1 < xs.length := by omega
  have e2 : xs = xs.take (xs.length - 1) ++ [v] := by
    rw [List.getElem?_eq_getElem hl] at e
    have h2 := List.take_concat_get hl
    rw [Option.some.inj e] at h2
    rw [show xs.length - 1 + 1 = xs.length by omega, List.take_length] at h2
    rw [← List.concat_eq_append]
    exact h2.symm
  rw [e2]
  exact atI_last _ _
/-- the place ahead of the one at t in an order -/
def pvU (u : List Nat) (t : Nat) : Nat := if t = 0 then u.getD (u.length - 1) 0 else u.getD (t - 1) 0
def wlB (u : List Nat) (T i j : Nat) : Bool := (List.range T).any fun t => decide (pvU u t = i ∧ u.getD t 0 = j)
def wlN (u : List Nat) (T i j : Nat) : Nat := if wlB u T i j = true then 1 else 0
def wlM (n : Nat) (u : List Nat) : List (List Nat) := (List.range n).map fun i => (List.range n).map fun j => wlN u n i j
theorem wlN_succ (u : List Nat) (T : Nat) : (fun i j => (wlN u (T + 1) i j : Nat)) = fun i j => if i = pvU u T ∧ j = u.getD T 0 then 1 else wlN u T i j := by
  funext i j
  unfold wlN wlB
  rw [List.range_succ, List.any_append]
  have e : ([T].any fun t => decide (pvU u t = i ∧ u.getD t 0 = j)) = decide (pvU u T = i ∧ u.getD T 0 = j) := by simp
  rw [e]
  by_cases c : i = pvU u T ∧ j = u.getD T 0
  · rw [if_pos c, decide_eq_true ⟨c.1.symm, c.2.symm⟩, Bool.or_true, if_pos rfl]
  · rw [if_neg c, decide_eq_false (fun z => c ⟨z.1.symm, z.2.symm⟩), Bool.or_false]
section
variable {n : Nat} {u : List Nat}
theorem wl_pos (ul : u.length = n) (und : u.Nodup) {t : Nat} (ht : t < n) {i j : Nat} (hi : pvU u t = i) : (wlB u n i j = true ↔ j = u.getD t 0) := by
  unfold wlB
  rw [List.any_eq_true]
  constructor
  · rintro ⟨s, hs, hd⟩
    have hs' := List.mem_range.mp hs
    obtain ⟨h1, h2⟩ := of_decide_eq_true hd
    have inj : ∀ a b, a < n → b < n → u.getD a 0 = u.getD b 0 → a = b := fun a b ha hb e => by
      have ea : u[a]? = some (u.getD a 0) := by
        rw [List.getD_eq_getElem?_getD, List.getElem?_eq_getElem (by omega)]
        rfl
      have eb : u[b]? = some (u.getD b 0) := by
        rw [List.getD_eq_getElem?_getD, List.getElem?_eq_getElem (by omega)]
        rfl
      exact (List.getElem?_inj (by omega) und).mp (by rw [ea, eb, e])
    have st : s = t := by
      rw [← hi] at h1
      unfold pvU at h1
      rw [ul] at h1
      split at h1
      · split at h1
        · omega
        · have := inj _ _ (by omega) (by omega) h1
          omega
      · split at h1
        · have := inj _ _ (by omega) (by omega) h1
          omega
        · have := inj _ _ (by omega) (by omega) h1
          omega
    rw [← h2, st]
  · rintro rfl
    exact ⟨t, List.mem_range.mpr ht, decide_eq_true ⟨hi, rfl⟩⟩
theorem wl_wk (n1 : 1 ≤ n) (n6 : n ≤ 6) (pu : u.Perm (List.range n)) : WkB 20 n (wlM n u) ∧ ∀ i j, i < n → j < n → chQ n (mf (wlM n u)) i j = fQ (wlN u n i j) := by
  have ul : u.length = n := by
    have := pu.length_eq
    rwa [List.length_range] at this
  have und : u.Nodup := pu.nodup_iff.mpr List.nodup_range
  have ult : ∀ a, a < n → u.getD a 0 < n := fun a ha => by
    rw [List.getD_eq_getElem?_getD, List.getElem?_eq_getElem (by omega)]
    exact List.mem_range.mp (pu.mem_iff.mp (List.getElem_mem _))
  have on : ∀ i, i < n → ∃ a, a < n ∧ u.getD a 0 = i := fun i hi => by
    obtain ⟨a, ha⟩ := List.mem_iff_getElem?.mp (pu.mem_iff.mpr (List.mem_range.mpr hi))
    have la := (List.getElem?_eq_some_iff.mp ha).1
    exact ⟨a, by omega, by rw [List.getD_eq_getElem?_getD, ha]; rfl⟩
  have nxt : ∀ i, i < n → ∃ t, t < n ∧ pvU u t = i := fun i hi => by
    obtain ⟨a, ha, e⟩ := on i hi
    by_cases c : a + 1 = n
    · refine ⟨0, by omega, ?_⟩
      unfold pvU
      rw [if_pos rfl, ul, show n - 1 = a by omega]
      exact e
    · refine ⟨a + 1, by omega, ?_⟩
      unfold pvU
      rw [if_neg (by omega), Nat.add_sub_cancel]
      exact e
  have at2 : ∀ {i j}, i < n → j < n → mf (wlM n u) i j = wlN u n i j := fun hi hj => sqM_at hi hj
  have rs : ∀ i, i < n → sN n (mf (wlM n u) i) = 1 := fun i hi => by
    obtain ⟨t, ht, e⟩ := nxt i hi
    have : sN n (mf (wlM n u) i) = sN n fun j => if j = u.getD t 0 then 1 else 0 := sN_congr fun j hj => by
      rw [at2 hi hj]
      unfold wlN
      by_cases c : j = u.getD t 0
      · rw [if_pos c, if_pos ((wl_pos ul und ht e).mpr c)]
      · rw [if_neg c, if_neg fun z => c ((wl_pos ul und ht e).mp z)]
    rw [this, sN_delta, if_pos (ult t ht)]
  have ed : ∀ a, a + 1 < n → EdN n (mf (wlM n u)) (u.getD a 0) (u.getD (a + 1) 0) := fun a ha => ⟨ult a (by omega), ult _ ha, by
    rw [at2 (ult a (by omega)) (ult _ ha)]
    unfold wlN
    rw [if_pos ((wl_pos ul und ha (by unfold pvU; rw [if_neg (by omega), Nat.add_sub_cancel])).mpr rfl)]
    omega⟩
  have ed0 : EdN n (mf (wlM n u)) (u.getD (n - 1) 0) (u.getD 0 0) := ⟨ult _ (by omega), ult _ (by omega), by
    rw [at2 (ult _ (by omega)) (ult _ (by omega))]
    unfold wlN
    rw [if_pos ((wl_pos ul und (t := 0) (by omega) (by unfold pvU; rw [if_pos rfl, ul])).mpr rfl)]
    omega⟩
  have up : ∀ k, k < n → Reach (EdN n (mf (wlM n u))) (u.getD 0 0) (u.getD k 0) := fun k => by
    induction k with
    | zero => exact fun _ => .refl
    | succ k ih => exact fun hk => .step (ih (by omega)) (ed k hk)
  have down : ∀ m k, k + m + 1 = n → Reach (EdN n (mf (wlM n u))) (u.getD k 0) (u.getD 0 0) := fun m => by
    induction m with
    | zero =>
      intro k hk
      have : k = n - 1 := by omega
      rw [this]
      exact .one ed0
    | succ m ih => exact fun k hk => (Reach.one (ed k (by omega))).trans (ih (k + 1) (by omega))
  refine ⟨⟨n1, n6, by rw [sN_cst]; omega, by unfold wlM; simp, fun row hr => ?_, fun i j hi hj => ?_, fun a b ha hb => ?_, fun i hi => by rw [rs i hi]; omega⟩, fun i j hi hj => ?_⟩
  · unfold wlM at hr
    obtain ⟨i, _, rfl⟩ := List.mem_map.mp hr
    simp
  · rw [at2 hi hj]
    show wlN u n i j < 2 ^ 20
    have : (1 : Nat) < 2 ^ 20 := by decide
    unfold wlN
    split <;> omega
  · obtain ⟨x, hx, rfl⟩ := on a ha
    obtain ⟨y, hy, rfl⟩ := on b hb
    exact (down (n - 1 - x) x (by omega)).trans (up y hy)
  · unfold chQ
    rw [rs i hi, at2 hi hj]
    have h1 : fQ 1 = 1 := rfl
    rw [h1]
    generalize fQ (wlN u n i j) = x
    grind
end
section
variable {P : Program} {w : World} {K : PySem.W.Frag} {mg : Str → Option Value} {base : Heap}
/-- a drawn walk, as a square of numbers -/
def spSome (B : Nat) : Sp := fun vs H Q _ => ∃ (w l : Addr) (n : Nat), vs = [.ref w, .int (n : Nat)] ∧ 1 ≤ n ∧ n ≤ 6 ∧ WellAt w l H ∧
  ∀ (H' : Hp) (l' : Addr) (v : V) (M : List (List Nat)), Kp (At w) H H' → WellAt w l' H' → (l' = l ∨ H l' = none) → Dq (At w) H' v (tabD (walkM M)) → WkB B n M → Q v H'
theorem ok_lwheel {f : Addr} {fd : FuncData} (F : Fun K "_law_wheel" "_law_wheel" s_law_wheel f fd) (M : Mb mg) (Dlaw_order : Df P w K mg base 2 "_law_order" ["well", "size"] spOrder) :
    FnOk P w K mg base CX0 3 f fd ["well", "size"] (spSome 20) := by
  refine F.ok c_law_wheel (fun vs H Q E h => ?_) (fun cdv A outer s H vs Q E hr h => ?_)
  · obtain ⟨w, l, n, rfl, _⟩ := h
    rfl
  · obtain ⟨w, l, n, rfl, n1, n6, hW, q⟩ := h
    refine ⟨_, (pss_cons (ps_par (i := 2) (j := 3) (by rfl) c_law_wheel.nd rfl rfl (by decide) rfl rfl (pa_cons (pe_call Dlaw_order.G (hr.mono (by first | decide | omega)) rfl Dlaw_order.g Dlaw_order.kp Dlaw_order.b .nil pass0 (pa_cons (pv 0) (pa_cons (pv 1) pa_nil))) (pa_cons (pe_lc (own := [("turn", 4)]) rfl c_law_wheel.nd (pi_range1 (by rfl) M.range (pa_cons (pv 1) pa_nil)) (blkOk_by (own := [("turn", 4)]) (N := n_law_wheel) (sc := defScope s_law_wheel) (by decide +kernel)) (fun _ _ _ _ _ => (pg_name (i := 4) c_law_wheel.nd rfl (.inl rfl))) (fun _ _ _ _ _ => pts_nil) (fun _ _ _ _ _ => (pe_op op_rep (pe_lst (pa_cons (pe_tup (pa_cons pe_int (pa_cons pe_int pa_nil))) pa_nil)) (pv 1)))) pa_nil)) (by rfl))
 (pss_cons (ps_for PassesOwn.never rfl (pi_range1 (by rfl) M.range (pa_cons (pv 1) pa_nil)) (pg_name (i := 5) c_law_wheel.nd rfl (.inl rfl))
 (pss_one (ps_asg (pe_tup (pa_cons pe_int (pa_cons pe_int pa_nil))) (pg_sub (pe_ix ix_list (pv 3) (pe_ix ix_list (pv 2) (pe_op op_sub (pv 5) pe_int) (fun _ _ => rfl)) (fun _ _ => rfl)) (pe_ix ix_list (pv 2) (pv 5) (fun _ _ => rfl)) set_list))))
 (pss_one (ps_ret (pe_callTy call_tuple_of (by rfl) M.tuple (by decide +kernel) (pa_cons (pe_lc (own := [("each", 6)]) rfl c_law_wheel.nd (pi_list (pv 3)) (blkOk_by (own := [("each", 6)]) (N := n_law_wheel) (sc := defScope s_law_wheel) (by decide +kernel)) (fun _ _ _ _ _ => (pg_name (i := 6) c_law_wheel.nd rfl (.inl rfl))) (fun _ _ _ _ _ => pts_nil) (fun _ _ _ _ _ => (pe_callTy (call_tupK (K := K) rfl) (by rfl) M.tuple (by decide +kernel) (pa_cons (pv 6) pa_nil)))) pa_nil)))))), ?_⟩
    have em : ((n : Nat) : Int).toNat = n := Int.toNat_natCast n
    refine ⟨_, rfl, _, rfl, w, l, n, rfl, by omega, hW, fun H1 l1 p u k1 W1 hl1 p0 pw pl eP pu => ?_⟩
    refine ⟨_, rfl, _, rfl, by omega, by omega, fun D nD => ?_⟩
    rw [em]
    refine lc_it (walk_range (lo := 0) (n := n)) (fun i H' => Same H1 H' ∧ ∃ rs : List Addr, H' D = some (.lst (rs.map V.ref)) ∧ rs.length = i ∧ (∀ (i j : Nat) r, rs[i]? = some r → rs[j]? = some r → i = j) ∧ ∀ r ∈ rs, r ≠ D ∧ H1 r = none ∧ ∃ p, H' r = some (.lst (List.replicate n (.ref p))) ∧ H' p = some (.tup [.int 0, .int 1]))
      ⟨same_new nD, [], upd_same, rfl, fun i j r e => by simp at e, fun r hr => by simp at hr⟩ (fun i H _ p => trivial) ?_ ?_
    · rintro i x _ H2 hi ⟨s2, rs, eD, hl, nd, hrs⟩ ⟨rfl, rfl⟩
      refine ⟨rfl, ?_⟩
      unfold tYes
      refine ifT rfl ?_
      refine ⟨sz63 (by show 2 ≤ 1000; decide), fun t nt => ⟨sz63 (by show 1 ≤ 1000; decide), fun u nu => ⟨_, rfl, u, _, _, rfl, rfl, upd_same, by omega, by omega, ?_, fun r nr => ?_⟩⟩⟩
      · refine sz63 ?_
        show 1 * ((n : Int)).toNat ≤ 1000
        omega
      have en : (List.replicate ((n : Int)).toNat [V.ref t]).flatten = List.replicate n (.ref t) := by
        rw [Int.toNat_natCast]
        exact List.flatten_replicate_singleton
      rw [en]
      have s3 : Same H2 (upd (upd (upd H2 t (.tup [.int 0, .int 1])) u (.lst [.ref t])) r (.lst (List.replicate n (.ref t)))) := ((same_new nt).trans (same_new nu)).trans (same_new nr)
      have er : (upd (upd (upd H2 t (.tup [.int 0, .int 1])) u (.lst [.ref t])) r (.lst (List.replicate n (.ref t)))) r = some (.lst (List.replicate n (.ref t))) := upd_same
      have et : (upd (upd (upd H2 t (.tup [.int 0, .int 1])) u (.lst [.ref t])) r (.lst (List.replicate n (.ref t)))) t = some (.tup [.int 0, .int 1]) := ((same_new nu).trans (same_new nr)) _ _ upd_same
      have r2 : H2 r = none := ((same_new nt).trans (same_new nu)).free nr
      generalize upd (upd (upd H2 t (.tup [.int 0, .int 1])) u (.lst [.ref t])) r (.lst (List.replicate n (.ref t))) = H3 at s3 er et
      have eD3 := s3 _ _ eD
      have rD : r ≠ D := Ne.symm (ne_of_none eD r2)
      have keepL : ∀ {a : Addr} {o : HO} {acc : List V}, a ≠ D → H3 a = some o → (upd H3 D (.lst acc)) a = some o := fun ne e => by
        rw [upd_ne ne]
        exact e
      have tD : ∀ {t : Addr} {xs : List V}, H3 t = some (.tup xs) → t ≠ D := fun e z => by
        rw [z, eD3] at e
        cases e
      refine ⟨_, eD3, by rw [List.length_map]; exact sz63' (by omega), same_mut (s2.trans s3) nD, rs ++ [r], by rw [upd_same, List.map_append]; rfl, by rw [List.length_append, hl]; rfl, fun a b x ea eb => ?_, fun x hx => ?_⟩
      · have nin : ∀ (c : Nat), rs[c]? ≠ some r := fun c ec => by
          obtain ⟨_, _, p, h3, _⟩ := hrs r (List.mem_of_getElem? ec)
          rw [r2] at h3
          cases h3
        have la := (List.getElem?_eq_some_iff.mp ea).1
        have lb := (List.getElem?_eq_some_iff.mp eb).1
        rw [List.length_append, List.length_singleton] at la lb
        by_cases ca : a < rs.length
        · rw [List.getElem?_append_left ca] at ea
          by_cases cb : b < rs.length
          · rw [List.getElem?_append_left cb] at eb
            exact nd a b x ea eb
          · rw [List.getElem?_append_right (by omega), show b - rs.length = 0 by omega] at eb
            have : r = x := by simpa using eb
            rw [← this] at ea
            exact absurd ea (nin a)
        · rw [List.getElem?_append_right (by omega), show a - rs.length = 0 by omega] at ea
          have hx : r = x := by simpa using ea
          by_cases cb : b < rs.length
          · rw [List.getElem?_append_left cb, ← hx] at eb
            exact absurd eb (nin b)
          · omega
      · rcases List.mem_append.mp hx with hx | hx
        · obtain ⟨g1, g2, p, g3, g4⟩ := hrs x hx
          exact ⟨g1, g2, p, keepL g1 (s3 _ _ g3), keepL (tD (s3 _ _ g4)) (s3 _ _ g4)⟩
        · have : x = r := by simpa using hx
          subst this
          exact ⟨rD, s2.free r2, t, keepL rD er, keepL (tD et) et⟩
    rintro H2 ⟨s2, rs, eD, rl, rnd, hrs⟩
    have pD : p ≠ D := ne_of_none eP nD
    have prs : ∀ r ∈ rs, r ≠ p := fun r hr z => by
      have := (hrs r hr).2.1
      rw [z, eP] at this
      cases this
    obtain ⟨own1, h1, oD1, oP1, ro1⟩ : ∃ own1, OwnH H H2 w l1 own1 ∧ own1 D = some (rs.map V.ref) ∧ own1 p = some (nats u) ∧ RowsO own1 H2 rs n fun _ _ => 0 := by
      refine ⟨fun b => if b ∈ rs then (match H2 b with | some (.lst xs) => some xs | _ => none) else if b = D then some (rs.map V.ref) else if b = p then some (nats u) else none, ⟨k1.trans (Kp.same s2), well_sameS W1 s2, fun a xs e => ?_⟩, ?_, ?_, ⟨rl, rnd, fun i r e => ?_⟩⟩
      · try dsimp only at e
        by_cases c : a ∈ rs
        · rw [if_pos c] at e
          obtain ⟨g1, g2, p, g3, g4⟩ := hrs a c
          rw [g3] at e
          obtain rfl := Option.some.inj e
          exact ⟨g3, kp_free k1 g2 (W1.ne g2).1, (W1.ne g2).1, (W1.ne g2).2⟩
        · rw [if_neg c] at e
          by_cases c2 : a = D
          · subst c2
            rw [if_pos rfl] at e
            obtain rfl := Option.some.inj e
            exact ⟨eD, kp_free k1 nD (W1.ne nD).1, (W1.ne nD).1, (W1.ne nD).2⟩
          · rw [if_neg c2] at e
            by_cases c3 : a = p
            · subst c3
              rw [if_pos rfl] at e
              obtain rfl := Option.some.inj e
              exact ⟨s2 _ _ eP, p0, pw, pl⟩
            · rw [if_neg c3] at e
              cases e
      · show (if D ∈ rs then _ else _) = _
        rw [if_neg fun z => (hrs D z).1 rfl, if_pos rfl]
      · show (if p ∈ rs then _ else _) = _
        rw [if_neg fun z => prs p z rfl, if_neg pD, if_pos rfl]
      · obtain ⟨g1, g2, p, g3, g4⟩ := hrs r (List.mem_of_getElem? e)
        refine ⟨List.replicate n (.ref p), ?_, List.length_replicate, fun j v ev => ?_⟩
        · show (if r ∈ rs then _ else _) = _
          rw [if_pos (List.mem_of_getElem? e), g3]
        · rw [List.eq_of_mem_replicate (List.mem_of_getElem? ev)]
          exact ⟨p, rfl, g4⟩
    have rsD : ∀ r ∈ rs, r ≠ D := fun r hr => (hrs r hr).1
    clear hrs rnd eD s2 nD eP k1 W1
    have ul : u.length = n := by
      have := pu.length_eq
      rwa [List.length_range] at this
    have ult : ∀ a, a < n → u.getD a 0 < n := fun a ha => by
      rw [List.getD_eq_getElem?_getD, List.getElem?_eq_getElem (by omega)]
      exact List.mem_range.mp (pu.mem_iff.mp (List.getElem_mem _))
    have unat : ∀ a, a < n → (nats u)[a]? = some (.int (u.getD a 0 : Nat)) := fun a ha => by
      unfold nats
      rw [List.getElem?_map, List.getD_eq_getElem?_getD, List.getElem?_eq_getElem (by omega)]
      rfl
    refine ⟨_, _, rfl, ?_⟩
    refine ⟨_, rfl, _, rfl, by omega, by omega, ?_⟩
    rw [em]
    refine for_range (lo := 0) (n := n) (fun T σ H' => ∃ own y5, σ = [some (.ref w), some (.int (n : Nat)), some (.ref p), some (.ref D), none, y5, none] ∧ OwnH H H' w l1 own ∧ own D = some (rs.map V.ref) ∧ own p = some (nats u) ∧ RowsO own H' rs n (fun i j => fQ (wlN u T i j)))
      ⟨own1, _, rfl, h1, oD1, oP1, ?_⟩ ?_ ?_
    · have : (fun _ _ : Nat => (0 : Rat)) = fun i j => fQ (wlN u 0 i j) := by
        funext i j
        rfl
      rw [← this]
      exact ro1
    · clear h1 ro1 oD1 oP1
      rintro T σ H5 hT ⟨own5, y5, rfl, h5, oD5, oP5, ro5⟩
      have e0 : (0 : Int) + ((T : Nat) : Int) = ((T : Nat) : Int) := by omega
      rw [e0]
      have pvlt : pvU u T < n := by
        unfold pvU
        split
        · exact ult _ (by omega)
        · exact ult _ (by omega)
      have pvat : atI (nats u) ((T : Int) - 1) = some (.int (pvU u T : Nat)) := by
        unfold pvU
        by_cases c : T = 0
        · rw [if_pos c]
          subst c
          exact atI_endS (by rw [nats_len]; omega) (by rw [nats_len]; exact unat _ (by omega))
        · rw [if_neg c]
          have : (T : Int) - 1 = ((T - 1 : Nat) : Int) := by omega
          rw [this]
          exact atI_nat (unat _ (by omega))
      refine ⟨sz63 (by show 2 ≤ 1000; decide), fun z nz => ?_⟩
      have h6 := h5.new (o := .tup [.int 1, .int 1]) nz
      have s6 : Same H5 (upd H5 z (.tup [.int 1, .int 1])) := same_new nz
      have e6 : (upd H5 z (.tup [.int 1, .int 1])) z = some (.tup [.int 1, .int 1]) := upd_same
      have ro6 := ro5.mono (own' := own5) (fun t xs e => s6 _ _ e) fun r _ => rfl
      generalize upd H5 z (.tup [.int 1, .int 1]) = H6 at h6 s6 e6 ro6 ⊢
      have fz : FrA H6 (.ref z) 1 := ⟨z, rfl, e6⟩
      obtain ⟨r, xs, er, oR, xl, xa⟩ := ro6.at pvlt
      have rm := List.mem_of_getElem? er
      refine ⟨_, rfl, _, rfl, _, rfl, _, _, rfl, rfl, p, _, (T : Int) - 1, _, rfl, rfl, .of (h6.own _ _ oP5).1, pvat, D, _, (pvU u T : Int), .ref r, rfl, rfl, .of (h6.own _ _ oD5).1, atI_nat (by rw [List.getElem?_map, er]; rfl), _, rfl, _, rfl, p, _, (T : Int), _, rfl, rfl, .of (h6.own _ _ oP5).1, atI_nat (unat T hT), r, xs, (u.getD T 0 : Int), u.getD T 0, rfl, rfl, (h6.own _ _ oR).1, ixNat (by have := ult T hT; omega), ?_⟩
      have h7 := h6.set (ys := xs.set (u.getD T 0) (.ref z)) oR
      have ro7 := ro6.set (b := u.getD T 0) h6 er oR fz
      refine ⟨_, _, rfl, h7, by rw [setO_ne (Ne.symm (rsD r rm))]; exact oD5, by rw [setO_ne (Ne.symm (prs r rm))]; exact oP5, ?_⟩
      have eR : (fun i j => fQ (wlN u (T + 1) i j)) = fun i j => if i = pvU u T ∧ j = u.getD T 0 then (1 : Rat) else fQ (wlN u T i j) := by
        funext i j
        have := congrFun (congrFun (wlN_succ u T) i) j
        rw [this]
        split <;> rfl
      rw [eR]
      exact ro7
    · rintro σ H5 ⟨own5, y5, rfl, h5, oD5, oP5, ro5⟩
      obtain ⟨wk, hch⟩ := wl_wk n1 n6 pu
      have hwn : H5 w ≠ none := by
        obtain ⟨_, _, _, e, _⟩ := h5.W
        rw [e]
        exact fun z => nomatch z
      refine ⟨_, rfl, D, rfl, ⟨_, .of (h5.own _ _ oD5).1⟩, fun D2 nD2 => ?_⟩
      refine lc_rel (walk_list (K := K) (a := D) (xs := rs.map V.ref)) No (fun H' i y => i < n ∧ Dq (fun a => At w a ∨ a = D2) H' y (rowD ((List.range n).map fun j => chQ n (mf (wlM n u)) i j)))
        (fun Ha Hb i v k r => ⟨r.1, r.2.keep (k.mono fun b z => z.elim (fun z => z.elim) .inr)⟩) nD2 (fun _ z => z.elim) (by rw [List.length_map]; omega) (fun H' k' => .of (k' _ _ id (h5.own _ _ oD5).1)) ?_ ?_
      · rintro i x _ H6 Q' hi k6 nD6 ⟨rfl, hx⟩ q'
        obtain ⟨r, hr, rfl⟩ := map_some hx
        have hin : i < n := by
          have := (List.getElem?_eq_some_iff.mp hr).1
          omega
        have s6 := no_same k6
        obtain ⟨xs, oR, xl, xa⟩ := ro5.row i r hr
        refine ⟨rfl, _, rfl, r, xs, rfl, .inl ⟨.of (s6 _ _ (h5.own _ _ oR).1), fun t nt => ?_⟩⟩
        refine q' _ _ (Kp.new nt) ⟨hin, .tup (fun z => ?_) upd_same ?_⟩
        · rcases z with z | z
          · rw [show t = w from z] at nt
            exact hwn (s6.free nt)
          · rw [z] at nt
            exact nD6 nt
        · refine dqAll_of (by rw [List.length_map, List.length_map, List.length_range, xl]) fun j v ev => ?_
          have hj : j < n := by
            have := (List.getElem?_eq_some_iff.mp ev).1
            omega
          obtain ⟨p', rfl, ep⟩ := xa j v ev
          rw [← hch i j hin hj] at ep
          refine ⟨_, by rw [List.getElem?_map, List.getElem?_map, List.getElem?_range hj]; rfl, fr_dq (fun z => ?_) (same_new nt _ _ (s6 _ _ ep))⟩
          rcases z with z | z
          · exact h5.W.notTup ep z
          · rw [z, nD2] at ep
            cases ep
      · rintro H6 acc k6 eD6 hla ha
        have s6 := no_same k6
        rw [List.length_map, rl] at hla
        refine ⟨D2, acc, rfl, .inl ⟨.of eD6, fun t nt => ?_⟩⟩
        have W6 := well_sameS h5.W s6
        refine q _ l1 _ (wlM n u) ((h5.kp.trans (Kp.same s6)).trans (Kp.new nt)) (W6.new nt) hl1 ?_ wk
        rw [wk.tab]
        refine .tup (W6.ne nt).1 upd_same ?_
        have all : DqAll (fun a => At w a ∨ a = D2) H6 acc (((List.range n).map fun i => (List.range n).map fun j => chQ n (mf (wlM n u)) i j).map rowD) := dqAll_of (by rw [List.length_map, List.length_map, List.length_range, hla]) fun i v e => by
          obtain ⟨hi, h⟩ := ha i v e
          exact ⟨_, by rw [List.getElem?_map, List.getElem?_map, List.getElem?_range hi]; rfl, h⟩
        exact (all.keep (Kp.new nt)).weak fun b z => .inl z
end
end Kx
set_option exponentiation.threshold 4000
/-! The walk of drawn weights (second family of drawings). -/
namespace Kx
open PySem PySem.Spec PyProof.Rows L2 Bw
abbrev s_law_walk_of : Stmt := topS 41
abbrev n_law_walk_of : List Str := ["bars", "each"]
theorem c_law_walk_of : FnScope n_law_walk_of ["bars"] (defScope s_law_walk_of) :=
  ⟨rfl, rfl, rfl, by decide +kernel, rfl, by decide +kernel, by decide +kernel⟩

structure Bnds (n : Nat) (R : Nat → Nat → Rat) : Prop where
  wt : ∀ i j, WtQ (R i j)
  sy : ∀ i j, R i j = R j i
  con : ∀ a b, a < n → b < n → Reach (fun x y => x < n ∧ y < n ∧ 0 < R x y) a b
  row : ∀ i, i < n → ∃ j, j < n ∧ 0 < R i j
section
variable {P : Program} {w : World} {K : PySem.W.Frag} {mg : Str → Option Value} {base : Heap}
/-- each of a row, a tuple, over the sum of all -/
def spOverSumT (K : PySem.W.Frag) : Sp := fun vs H Q _ => ∃ (a : Addr) (xs : List V) (qs : List Rat) (n : Nat), vs = [.ref a] ∧ SqT K H a xs ∧ FrRow K H xs qs ∧ (∀ q ∈ qs, Bq.Sz n q) ∧ qs.length ≤ 100 ∧ 1 + qs.length * (n + 1) + n ≤ 9000 ∧ 0 < Bq.sumQ qs ∧
  ∀ v H', Same H H' → Dq (Old H) H' v (rowD (qs.map fun q => q / Bq.sumQ qs)) → Q v H'
theorem ok_loversumT {f : Addr} {fd : FuncData} (F : Fun K "_law_over" "_law_over" s_law_over f fd) (M : Mb mg) (Dlaw_div : Df P w K mg base 2 "_law_div" ["x", "y"] (spOver K))
    (DtotT : Df P w K mg base 3 "_law_total" ["some"] (spSum K (SqT K))) : FnOk P w K mg base CX0 4 f fd ["each"] (spOverSumT K) := by
  refine F.ok c_law_over (fun vs H Q E h => ?_) (fun cdv A outer s H vs Q E hr h => ?_)
  · obtain ⟨a, xs, qs, n, rfl, _⟩ := h
    rfl
  · obtain ⟨a, xs, qs, n, rfl, ha, hx, hs, hl, hn, h0, q⟩ := h
    refine ⟨_, (pss_cons (ps_set (i := 1) c_law_over.nd rfl (.inr rfl) (pe_call DtotT.G (hr.mono (by first | decide | omega)) rfl DtotT.g DtotT.kp DtotT.b .nil pass0 (pa_cons (pv 0) pa_nil)))
 (pss_one (ps_ret (pe_callTy call_tuple_of (by rfl) M.tuple (by decide +kernel) (pa_cons (pe_lc (own := [("x", 2)]) rfl c_law_over.nd (pi_tup (pv 0)) (blkOk_by (own := [("x", 2)]) (N := n_law_over) (sc := defScope s_law_over) (by decide +kernel)) (fun _ _ _ _ _ => (pg_name (i := 2) c_law_over.nd rfl (.inl rfl))) (fun _ _ _ _ _ => pts_nil) (fun _ _ _ _ _ => (pe_call Dlaw_div.G (hr.mono (by first | decide | omega)) rfl Dlaw_div.g Dlaw_div.kp Dlaw_div.b .nil pass0 (pa_cons (pv 2) (pa_cons (pv 1) pa_nil))))) pa_nil))))), ?_⟩
    refine ⟨_, rfl, a, xs, qs, n, rfl, ha, hx, hs, by omega, fun u H1 s1 hu => ?_⟩
    have su : Bq.Sz (1 + qs.length * (n + 1)) (Bq.sumQ qs) := by
      have := sz_take hs qs.length (Nat.le_refl _)
      rwa [List.take_length] at this
    have xl := hx.1
    refine ⟨_, rfl, a, rfl, ⟨xs, same_tup s1 ha⟩, fun D nD => lc_rel (walk_tup (K := K) (a := a) (xs := xs)) No (fun H' i y => ∃ p, qs[i]? = some p ∧ Dq (fun b => Old H b ∨ b = D) H' y (frD (p / Bq.sumQ qs)))
      (fun H H' i v k r => ?_) nD (fun _ z => z.elim) (by omega) (fun H' k' => same_tup (s1.trans (no_same k')) ha) ?_ ?_⟩
    · obtain ⟨p, e, h⟩ := r
      exact ⟨p, e, h.keep (k.mono fun b z => z.elim (fun z => z.elim) .inr)⟩
    · rintro i x H2 _ Q' hi k2 nD2 ⟨rfl, hx2⟩ q'
      have e : qs[i]? = some (qs[i]'(by omega)) := List.getElem?_eq_getElem (by omega)
      have s2 := no_same k2
      refine ⟨rfl, _, rfl, _, rfl, x, u, _, _, n, 1 + qs.length * (n + 1), rfl, (hx.2 i x _ hx2 e).same (s1.trans s2), hu.fr.same s2, hs _ (List.mem_of_getElem? e), su, by omega, h0, fun p hp => ?_⟩
      refine q' _ _ (Kp.new hp) ⟨_, e, fr_dq (fun z => ?_) upd_same⟩
      rcases z with z | z
      · exact z ((s1.trans s2).free hp)
      · rw [z] at hp
        exact nD2 hp
    · rintro H2 acc k2 eD hla ha2
      have s2 := no_same k2
      refine ⟨D, acc, rfl, .inl ⟨.of eD, fun t nt => q _ _ ((s1.trans s2).trans (same_new nt)) (.tup (fun z => z ((s1.trans s2).free nt)) upd_same ?_)⟩⟩
      have all : DqAll (fun b => Old H b ∨ b = D) H2 acc ((qs.map fun q => q / Bq.sumQ qs).map frD) := dqAll_of (by rw [List.length_map, List.length_map]; omega) fun i v e => by
        obtain ⟨p, e2, h⟩ := ha2 i v e
        exact ⟨_, by rw [List.getElem?_map, List.getElem?_map, e2]; rfl, h⟩
      exact (all.keep (Kp.new nt)).weak fun b z => .inl z
end

/-- the rows, made whole -/
def dnP (n : Nat) (R : Nat → Nat → Rat) (i : Nat) : Nat := pP n fun j => (R i j).den
def scN (n : Nat) (R : Nat → Nat → Rat) (i j : Nat) : Nat := (R i j).num.toNat * (dnP n R i / (R i j).den)
def scM (n : Nat) (R : Nat → Nat → Rat) : List (List Nat) := (List.range n).map fun i => (List.range n).map fun j => scN n R i j
theorem fQ_num {q : Rat} (h : 0 ≤ q) : fQ q.num.toNat = q * fQ q.den := by
  have h0 := Bq.num_nonneg.mpr h
  have e1 : ((q.num.toNat : Nat) : Int) = q.num := by omega
  have e2 : fQ q.num.toNat = ((q.num : Int) : Rat) := by
    unfold fQ
    rw [← e1, Rat.intCast_natCast]
    congr 1
  have e3 := Bq.num_over q
  rw [Rat.divInt_eq_div] at e3
  have d0 := fQ_ne (show 0 < q.den from q.den_pos)
  have e4 : (((q.den : Nat) : Int) : Rat) = fQ q.den := Rat.intCast_natCast _
  rw [e4] at e3
  rw [e2]
  generalize fQ q.den = d at *
  generalize ((q.num : Int) : Rat) = y at *
  rw [← e3]
  grind
section
variable {n : Nat} {R : Nat → Nat → Rat}
theorem dnP_pos (i : Nat) : 0 < dnP n R i := pP_pos fun j _ => (R i j).den_pos
theorem scN_eq (h : Bnds n R) {i j : Nat} (hj : j < n) : fQ (scN n R i j) = R i j * fQ (dnP n R i) := by
  obtain ⟨k, hk⟩ := pP_dvd (f := fun j => (R i j).den) hj
  have hk' : dnP n R i = (R i j).den * k := hk
  unfold scN
  rw [hk', Nat.mul_div_cancel_left _ (R i j).den_pos, fQ_mul, fQ_mul, fQ_num (h.wt i j).1]
  generalize fQ (R i j).den = a
  generalize fQ k = b
  grind
theorem scM_at {i j : Nat} (hi : i < n) (hj : j < n) : mf (scM n R) i j = scN n R i j := by
  have e : (scM n R)[i]? = some ((List.range n).map fun j => scN n R i j) := by
    unfold scM
    rw [List.getElem?_map, List.getElem?_range hi]
    rfl
  rw [mf_row e]
  show ((List.range n).map fun j => scN n R i j).getD j 0 = _
  rw [List.getD_eq_getElem?_getD, List.getElem?_map, List.getElem?_range hj]
  rfl
theorem sc_sum (h : Bnds n R) {i : Nat} (hi : i < n) : fQ (sN n (mf (scM n R) i)) = Bq.sumQ ((List.range n).map (R i)) * fQ (dnP n R i) := by
  rw [← sumQ_fQ]
  have e : ((List.range n).map fun j => fQ (mf (scM n R) i j)) = ((List.range n).map (R i)).map fun q => fQ (dnP n R i) * q := by
    rw [List.map_map]
    refine List.map_congr_left fun j hj => ?_
    show fQ (mf (scM n R) i j) = fQ (dnP n R i) * R i j
    rw [scM_at hi (List.mem_range.mp hj), scN_eq h (List.mem_range.mp hj), Rat.mul_comm]
  rw [e, sumQ_mulL, Rat.mul_comm]
theorem row_posR (h : Bnds n R) {i : Nat} (hi : i < n) : 0 < Bq.sumQ ((List.range n).map (R i)) := by
  obtain ⟨j, hj, hp⟩ := h.row i hi
  exact sum_pos (fun q hq => by
    obtain ⟨j, _, rfl⟩ := List.mem_map.mp hq
    exact (h.wt i j).1) ⟨R i j, List.mem_map.mpr ⟨j, List.mem_range.mpr hj, rfl⟩, hp⟩
theorem sc_ch (h : Bnds n R) {i j : Nat} (hi : i < n) (hj : j < n) : chQ n (mf (scM n R)) i j = R i j / Bq.sumQ ((List.range n).map (R i)) := by
  unfold chQ
  rw [sc_sum h hi, scM_at hi hj, scN_eq h hj]
  have z1 := fQ_ne (dnP_pos (n := n) (R := R) i)
  have z2 : Bq.sumQ ((List.range n).map (R i)) ≠ 0 := by
    have := row_posR h hi
    grind
  generalize fQ (dnP n R i) = a at *
  generalize Bq.sumQ ((List.range n).map (R i)) = b at *
  grind
theorem sc_pos (h : Bnds n R) {i j : Nat} (hj : j < n) (hp : 0 < R i j) : 0 < scN n R i j := by
  have e := scN_eq h (i := i) hj
  have z1 := fQ_pos (dnP_pos (n := n) (R := R) i)
  have z2 := Rat.mul_pos hp z1
  rw [← e] at z2
  by_cases c : 0 < scN n R i j
  · exact c
  · have : scN n R i j = 0 := by omega
    rw [this] at z2
    exact absurd z2 (by decide)
theorem sc_wk (h : Bnds n R) (n1 : 1 ≤ n) (n6 : n ≤ 6) : WkB 56 n (scM n R) := by
  have dl : ∀ i, dnP n R i ≤ 2 ^ 36 := fun i => by
    have h1 := pP_lt (f := fun j => (R i j).den) (b := 6) (n := n) fun j _ => Nat.lt_of_le_of_lt (h.wt i j).2.2 (by decide)
    exact Nat.le_trans h1 (Nat.pow_le_pow_right (by decide) (by omega))
  refine ⟨n1, n6, by rw [sN_cst]; omega, by unfold scM; simp, fun row hr => ?_, fun i j hi hj => ?_, fun a b ha hb => (h.con a b ha hb).mono fun x y e => ⟨e.1, e.2.1, by rw [scM_at e.1 e.2.1]; exact sc_pos h e.2.1 e.2.2⟩, fun i hi => ?_⟩
  · unfold scM at hr
    obtain ⟨i, _, rfl⟩ := List.mem_map.mp hr
    simp
  · rw [scM_at hi hj]
    unfold scN
    have h1 := (h.wt i j).2.1
    have h2 : dnP n R i / (R i j).den ≤ 2 ^ 36 := Nat.le_trans (Nat.div_le_self _ _) (dl i)
    have h3 : (R i j).num.toNat < 2 ^ 20 := by omega
    have h4 : (R i j).num.toNat * (dnP n R i / (R i j).den) ≤ (R i j).num.toNat * 2 ^ 36 := Nat.mul_le_mul_left _ h2
    have h5 : (R i j).num.toNat * 2 ^ 36 < 2 ^ 20 * 2 ^ 36 := Nat.mul_lt_mul_of_pos_right h3 (by decide)
    have h6 : (2 : Nat) ^ 20 * 2 ^ 36 = 2 ^ 56 := by rw [← Nat.pow_add]
    omega
  · obtain ⟨j, hj, hp⟩ := h.row i hi
    exact sN_pos hj (by rw [scM_at hi hj]; exact sc_pos h hj hp)
theorem wt_sz {q : Rat} (h : WtQ q) : Bq.Sz 20 q := by
  have h0 := Bq.num_nonneg.mpr h.1
  refine ⟨?_, Nat.lt_of_le_of_lt h.2.2 (by decide)⟩
  have := h.2.1
  omega
end
section
variable {P : Program} {w : World} {K : PySem.W.Frag} {mg : Str → Option Value} {base : Heap}
/-- the walk of weights -/
def spWalkBy : Sp := fun vs H Q _ => ∃ (W : Addr → Prop) (v : V) (n : Nat) (R : Nat → Nat → Rat), vs = [v] ∧ Dq W H v (tabD (tabF n R)) ∧ 1 ≤ n ∧ n ≤ 6 ∧ Bnds n R ∧
  ∀ v' H', Same H H' → Dq (Old H) H' v' (tabD (walkM (scM n R))) → Q v' H'
theorem ok_lwalkby {f : Addr} {fd : FuncData} (F : Fun K "_law_walk_of" "_law_walk_of" s_law_walk_of f fd) (M : Mb mg) (Dlaw_over : Df P w K mg base 4 "_law_over" ["each"] (spOverSumT K)) : FnOk P w K mg base CX0 5 f fd ["bars"] spWalkBy := by
  refine F.ok c_law_walk_of (fun vs H Q E h => ?_) (fun cdv A outer s H vs Q E hr h => ?_)
  · obtain ⟨_, v, n, R, rfl, _⟩ := h
    rfl
  · obtain ⟨W, v, n, R, rfl, hd, n1, n6, bn, q⟩ := h
    refine ⟨_, (pss_one (ps_ret (pe_callTy call_tuple_of (by rfl) M.tuple (by decide +kernel) (pa_cons (pe_lc (own := [("each", 1)]) rfl c_law_walk_of.nd (pi_tup (pv 0)) (blkOk_by (own := [("each", 1)]) (N := n_law_walk_of) (sc := defScope s_law_walk_of) (by decide +kernel)) (fun _ _ _ _ _ => (pg_name (i := 1) c_law_walk_of.nd rfl (.inl rfl))) (fun _ _ _ _ _ => pts_nil) (fun _ _ _ _ _ => (pe_call Dlaw_over.G (hr.mono (by first | decide | omega)) rfl Dlaw_over.g Dlaw_over.kp Dlaw_over.b .nil pass0 (pa_cons (pv 1) pa_nil)))) pa_nil)))), ?_⟩
    obtain ⟨a, xs, rfl, na, ea, el⟩ := hd.tupI
    unfold tabF at el
    have xl : xs.length = n := by
      have := el.length
      simpa using this
    have wk := sc_wk bn n1 n6
    have eb : walkM (scM n R) = (List.range n).map fun i => (List.range n).map fun j => R i j / Bq.sumQ ((List.range n).map (R i)) := by
      rw [wk.tab]
      refine List.map_congr_left fun i hi => List.map_congr_left fun j hj => ?_
      exact sc_ch bn (List.mem_range.mp hi) (List.mem_range.mp hj)
    rw [eb] at q
    refine ⟨_, rfl, a, rfl, ⟨xs, .of ea⟩, fun D nD => lc_rel (walk_tup (K := K) (a := a) (xs := xs)) No (fun H' i y => Dq (fun b => Old H b ∨ b = D) H' y (rowD ((List.range n).map fun j => R i j / Bq.sumQ ((List.range n).map (R i)))))
      (fun H H' i v k r => r.keep (k.mono fun b z => z.elim (fun z => z.elim) .inr)) nD (fun _ z => z.elim) (by omega) (fun H' k' => .of (no_same k' _ _ ea)) ?_ ?_⟩
    · rintro i x H2 _ Q' hi k2 nD2 ⟨rfl, hx⟩ q'
      have s2 := no_same k2
      obtain ⟨hin, dy⟩ := tab_at el hx
      obtain ⟨b, ys, rfl, nb, eb2, er⟩ := (dy.keep (Kp.same s2)).tupI
      refine ⟨rfl, _, rfl, b, ys, _, 20, rfl, .of eb2, dq_row er, fun p hp => ?_, by rw [List.length_map, List.length_range]; omega, by rw [List.length_map, List.length_range]; omega, row_posR bn hin, fun v3 H3 s3 d3 => q' _ _ (Kp.same s3) ?_⟩
      · obtain ⟨j, _, rfl⟩ := List.mem_map.mp hp
        exact wt_sz (bn.wt i j)
      · rw [List.map_map] at d3
        refine d3.weak fun c z => ?_
        rcases z with z | z
        · exact fun e => z (s2.free e)
        · rw [z]
          exact nD2
    · rintro H2 acc k2 eD hla ha
      have s2 := no_same k2
      refine ⟨D, acc, rfl, .inl ⟨.of eD, fun t nt => q _ _ (s2.trans (same_new nt)) (.tup (fun z => z (s2.free nt)) upd_same ?_)⟩⟩
      have all : DqAll (fun b => Old H b ∨ b = D) H2 acc (((List.range n).map fun i => (List.range n).map fun j => R i j / Bq.sumQ ((List.range n).map (R i))).map rowD) := dqAll_of (by rw [List.length_map, List.length_map, List.length_range]; omega) fun i v e => by
        have hi : i < n := by
          have := (List.getElem?_eq_some_iff.mp e).1
          omega
        exact ⟨_, by rw [List.getElem?_map, List.getElem?_map, List.getElem?_range hi]; rfl, ha i v e⟩
      exact (all.keep (Kp.new nt)).weak fun b z => .inl z
end
end Kx
set_option exponentiation.threshold 4000
/-! Drawn weights (second family of drawings). -/
namespace Kx
open PySem PySem.Spec PyProof.Rows L2 Bw
abbrev s_law_bars : Stmt := topS 39
abbrev n_law_bars : List Str := ["well", "size", "most", "found", "order", "pool", "turn", "at", "here", "there", "heft", "each"]
theorem c_law_bars : FnScope n_law_bars ["well", "size", "most"] (defScope s_law_bars) :=
  ⟨rfl, rfl, rfl, by decide +kernel, rfl, by decide +kernel, by decide +kernel⟩

def set2 (R : Nat → Nat → Rat) (h t : Nat) (q : Rat) : Nat → Nat → Rat := fun i j => if i = t ∧ j = h then q else if i = h ∧ j = t then q else R i j
theorem set2_wt {R : Nat → Nat → Rat} {h t : Nat} {q : Rat} (hR : ∀ i j, WtQ (R i j)) (hq : WtQ q) : ∀ i j, WtQ (set2 R h t q i j) := fun i j => by
  unfold set2
  split
  · exact hq
  · split
    · exact hq
    · exact hR i j
theorem set2_sy {R : Nat → Nat → Rat} {h t : Nat} {q : Rat} (hR : ∀ i j, R i j = R j i) : ∀ i j, set2 R h t q i j = set2 R h t q j i := fun i j => by
  unfold set2
  by_cases c1 : i = t ∧ j = h
  · rw [if_pos c1]
    by_cases c2 : j = t ∧ i = h
    · rw [if_pos c2]
    · rw [if_neg c2, if_pos ⟨c1.2, c1.1⟩]
  · rw [if_neg c1]
    by_cases c3 : i = h ∧ j = t
    · rw [if_pos c3, if_pos ⟨c3.2, c3.1⟩]
    · rw [if_neg c3, if_neg fun z => c3 ⟨z.2, z.1⟩, if_neg fun z => c1 ⟨z.2, z.1⟩]
      exact hR i j
theorem set2_pos {R : Nat → Nat → Rat} {h t : Nat} {q : Rat} (hq : 0 < q) {i j : Nat} (hp : 0 < R i j) : 0 < set2 R h t q i j := by
  unfold set2
  split
  · exact hq
  · split
    · exact hq
    · exact hp
theorem set2_at {R : Nat → Nat → Rat} {h t : Nat} {q : Rat} (hq : 0 < q) : 0 < set2 R h t q h t ∧ 0 < set2 R h t q t h := by
  unfold set2
  refine ⟨?_, ?_⟩
  · split
    · exact hq
    · rw [if_pos ⟨rfl, rfl⟩]
      exact hq
  · rw [if_pos ⟨rfl, rfl⟩]
    exact hq
theorem refs_erase : ∀ (ts : List Addr) (i : Nat), (ts.map V.ref).eraseIdx i = (ts.eraseIdx i).map V.ref
  | [], _ => rfl
  | a :: S, 0 => rfl
  | a :: S, i + 1 => congrArg (V.ref a :: ·) (refs_erase S i)
theorem TupsAt.erase {H : Hp} {ts : List Addr} {E : List (Nat × Nat)} (h : TupsAt H ts E) (i : Nat) : TupsAt H (ts.eraseIdx i) (E.eraseIdx i) := by
  have hl := h.1
  refine ⟨by rw [List.length_eraseIdx, List.length_eraseIdx, hl], fun j t e h1 h2 => ?_⟩
  rw [List.getElem?_eraseIdx] at h1 h2
  split at h1
  · rw [if_pos (by assumption)] at h2
    exact h.2 j t e h1 h2
  · rw [if_neg (by assumption)] at h2
    exact h.2 _ t e h1 h2
theorem dg_wt {R : Nat → Nat → Rat} {t : Nat} {q : Rat} (hR : ∀ i j, WtQ (R i j)) (hq : WtQ q) : ∀ i j, WtQ ((fun i j => if i = t ∧ j = t then q else R i j) i j) := fun i j => by
  dsimp only
  split
  · exact hq
  · exact hR i j
theorem dg_sy {R : Nat → Nat → Rat} {t : Nat} {q : Rat} (hR : ∀ i j, R i j = R j i) : ∀ i j, (fun i j => if i = t ∧ j = t then q else R i j) i j = (fun i j => if i = t ∧ j = t then q else R i j) j i := fun i j => by
  dsimp only
  by_cases c : i = t ∧ j = t
  · rw [if_pos c, if_pos ⟨c.2, c.1⟩]
  · rw [if_neg c, if_neg (fun z => c ⟨z.2, z.1⟩), hR]
theorem dg_pos {R : Nat → Nat → Rat} {t : Nat} {q : Rat} (hq : 0 < q) {i j : Nat} (hp : 0 < R i j) : 0 < (fun i j => if i = t ∧ j = t then q else R i j) i j := by
  dsimp only
  split
  · exact hq
  · exact hp
theorem dg_at {R : Nat → Nat → Rat} {t : Nat} {q : Rat} (hq : 0 < q) : 0 < (fun i j => if i = t ∧ j = t then q else R i j) t t := by
  dsimp only
  rw [if_pos ⟨rfl, rfl⟩]
  exact hq
theorem wt_nil : WtQ 0 := ⟨Rat.le_refl, by decide, by decide⟩
section
variable {P : Program} {w : World} {K : PySem.W.Frag} {mg : Str → Option Value} {base : Heap}
/-- drawn weights -/
def spBars : Sp := fun vs H Q _ => ∃ (w l : Addr) (n m : Nat), vs = [.ref w, .int (n : Nat), .int (m : Nat)] ∧ 1 ≤ n ∧ n ≤ 6 ∧ m ≤ 100 ∧ WellAt w l H ∧
  ∀ (H' : Hp) (l' : Addr) (v : V) (R : Nat → Nat → Rat), Kp (At w) H H' → WellAt w l' H' → (l' = l ∨ H l' = none) → Dq (At w) H' v (tabD (tabF n R)) → Bnds n R → Q v H'
theorem ok_lbars {f : Addr} {fd : FuncData} (F : Fun K "_law_bars" "_law_bars" s_law_bars f fd) (M : Mb mg) (Dlaw_draw : Df P w K mg base 1 "_law_draw" ["well", "limit"] spPickL) (Dlaw_order : Df P w K mg base 2 "_law_order" ["well", "size"] spOrder) (Dlaw_heft : Df P w K mg base 2 "_law_heft" ["well"] spHeft) :
    FnOk P w K mg base CX0 3 f fd ["well", "size", "most"] spBars := by
  refine F.ok c_law_bars (fun vs H Q E h => ?_) (fun cdv A outer s H vs Q E hr h => ?_)
  · obtain ⟨w, l, n, m, rfl, _⟩ := h
    rfl
  · obtain ⟨w, l, n, m, rfl, n1, n6, m1, hW, q⟩ := h
    have hu := hr.units
    refine ⟨_, (pss_cons (ps_asg (pe_tup (pa_cons (pe_lc (own := [("turn", 6)]) rfl c_law_bars.nd (pi_range1 (by rfl) M.range (pa_cons (pv 1) pa_nil)) (blkOk_by (own := [("turn", 6)]) (N := n_law_bars) (sc := defScope s_law_bars) (by decide +kernel)) (fun _ _ _ _ _ => (pg_name (i := 6) c_law_bars.nd rfl (.inl rfl))) (fun _ _ _ _ _ => pts_nil) (fun _ _ _ _ _ => (pe_op op_rep (pe_lst (pa_cons (pe_tup (pa_cons pe_int (pa_cons pe_int pa_nil))) pa_nil)) (pv 1)))) (pa_cons (pe_call Dlaw_order.G (hr.mono (by first | decide | omega)) rfl Dlaw_order.g Dlaw_order.kp Dlaw_order.b .nil pass0 (pa_cons (pv 0) (pa_cons (pv 1) pa_nil))) (pa_cons (pe_lst pa_nil) pa_nil)))) (pg_tup rfl (pgs_cons (pg_name (i := 3) c_law_bars.nd rfl (.inr rfl)) (pgs_cons (pg_name (i := 4) c_law_bars.nd rfl (.inl rfl)) (pgs_cons (pg_name (i := 5) c_law_bars.nd rfl (.inl rfl)) pgs_nil)))))
 (pss_cons (ps_for PassesOwn.never rfl (pi_range2 (by rfl) M.range (pa_cons pe_int (pa_cons (pv 1) pa_nil))) (pg_name (i := 7) c_law_bars.nd rfl (.inl rfl))
 (pss_cons (ps_asg (pe_tup (pa_cons (pe_ix ix_list (pv 4) (pv 7) (fun _ _ => rfl)) (pa_cons (pe_ix ix_list (pv 4) (pe_call Dlaw_draw.G (hr.mono (by first | decide | omega)) rfl Dlaw_draw.g Dlaw_draw.kp Dlaw_draw.b .nil pass0 (pa_cons (pv 0) (pa_cons (pv 7) pa_nil))) (fun _ _ => rfl)) (pa_cons (pe_call Dlaw_heft.G (hr.mono (by first | decide | omega)) rfl Dlaw_heft.g Dlaw_heft.kp Dlaw_heft.b .nil pass0 (pa_cons (pv 0) pa_nil)) pa_nil)))) (pg_tup rfl (pgs_cons (pg_name (i := 8) c_law_bars.nd rfl (.inr rfl)) (pgs_cons (pg_name (i := 9) c_law_bars.nd rfl (.inl rfl)) (pgs_cons (pg_name (i := 10) c_law_bars.nd rfl (.inl rfl)) pgs_nil)))))
 (pss_cons (ps_asg (pv 10) (pg_sub (pe_ix ix_list (pv 3) (pv 8) (fun _ _ => rfl)) (pv 9) set_list))
 (pss_one (ps_asg (pv 10) (pg_sub (pe_ix ix_list (pv 3) (pv 9) (fun _ _ => rfl)) (pv 8) set_list))))))
 (pss_cons (ps_for PassesOwn.never rfl (pi_range1 (by rfl) M.range (pa_cons (pv 1) pa_nil)) (pg_name (i := 8) c_law_bars.nd rfl (.inr rfl))
 (pss_one (ps_set (i := 5) c_law_bars.nd rfl (.inl rfl) (pe_op op_cat (pv 5) (pe_lc (own := [("there", 9)]) rfl c_law_bars.nd (pi_range1 (by rfl) M.range (pa_cons (pv 8) pa_nil)) (blkOk_by (own := [("there", 9)]) (N := n_law_bars) (sc := defScope s_law_bars) (by decide +kernel)) (fun _ _ _ _ _ => (pg_name (i := 9) c_law_bars.nd rfl (.inl rfl))) (fun _ _ _ _ _ => (pts_one (pt_cmpR op_eq (pe_ix (ix_tupK (K := K) rfl) (pe_ix (ix_listK (K := K) rfl) (pe_ix (ix_listK (K := K) rfl) (pv 3) (pv 8) (fun _ _ => rfl)) (pv 9) (fun _ _ => rfl)) pe_int (fun _ _ => rfl)) pe_int (nomark _)))) (fun _ _ _ _ _ => (pe_tup (pa_cons (pv 8) (pa_cons (pv 9) pa_nil)))))))))
 (pss_cons (ps_for PassesOwn.never rfl (pi_range1 (by rfl) M.range (pa_cons (pe_call Dlaw_draw.G (hr.mono (by first | decide | omega)) rfl Dlaw_draw.g Dlaw_draw.kp Dlaw_draw.b .nil pass0 (pa_cons (pv 0) (pa_cons (pe_op op_add (pe_callB (call_min2 rfl) (by rfl) M.min (by decide +kernel) (pa_cons (pv 2) (pa_cons (pe_callB call_len_seq (by rfl) M.len (by decide +kernel) (pa_cons (pv 5) pa_nil)) pa_nil))) pe_int) pa_nil))) pa_nil)) (pg_name (i := 6) c_law_bars.nd rfl (.inl rfl))
 (pss_cons (ps_asg (pe_bm PySem.F.plainAttrs_list PySem.F.slot_list_pop PySem.F.type_list_pop mt_popAt (pv 5) (pa_cons (pe_call Dlaw_draw.G (hr.mono (by first | decide | omega)) rfl Dlaw_draw.g Dlaw_draw.kp Dlaw_draw.b .nil pass0 (pa_cons (pv 0) (pa_cons (pe_callB call_len_seq (by rfl) M.len (by decide +kernel) (pa_cons (pv 5) pa_nil)) pa_nil))) pa_nil)) (pg_tup rfl (pgs_cons (pg_name (i := 8) c_law_bars.nd rfl (.inr rfl)) (pgs_cons (pg_name (i := 9) c_law_bars.nd rfl (.inl rfl)) pgs_nil))))
 (pss_cons (ps_set (i := 10) c_law_bars.nd rfl (.inl rfl) (pe_call Dlaw_heft.G (hr.mono (by first | decide | omega)) rfl Dlaw_heft.g Dlaw_heft.kp Dlaw_heft.b .nil pass0 (pa_cons (pv 0) pa_nil)))
 (pss_cons (ps_asg (pv 10) (pg_sub (pe_ix ix_list (pv 3) (pv 8) (fun _ _ => rfl)) (pv 9) set_list))
 (pss_one (ps_asg (pv 10) (pg_sub (pe_ix ix_list (pv 3) (pv 9) (fun _ _ => rfl)) (pv 8) set_list)))))))
 (pss_cons (ps_for PassesOwn.never rfl (pi_range1 (by rfl) M.range (pa_cons (pv 1) pa_nil)) (pg_name (i := 8) c_law_bars.nd rfl (.inr rfl))
 (pss_one (ps_if (PW.pt (pw_or (pt_cmpR op_eq (pv 1) pe_int (nomark _)) (pw_or1 (pt_cmpR op_eq (pe_call Dlaw_draw.G (hr.mono (by first | decide | omega)) rfl Dlaw_draw.g Dlaw_draw.kp Dlaw_draw.b .nil pass0 (pa_cons (pv 0) (pa_cons pe_int pa_nil))) pe_int (nomark _)))))
 (pss_one (ps_asg (pe_call Dlaw_heft.G (hr.mono (by first | decide | omega)) rfl Dlaw_heft.g Dlaw_heft.kp Dlaw_heft.b .nil pass0 (pa_cons (pv 0) pa_nil)) (pg_sub (pe_ix ix_list (pv 3) (pv 8) (fun _ _ => rfl)) (pv 8) set_list)))
 pss_nil)))
 (pss_one (ps_ret (pe_callTy call_tuple_of (by rfl) M.tuple (by decide +kernel) (pa_cons (pe_lc (own := [("each", 11)]) rfl c_law_bars.nd (pi_list (pv 3)) (blkOk_by (own := [("each", 11)]) (N := n_law_bars) (sc := defScope s_law_bars) (by decide +kernel)) (fun _ _ _ _ _ => (pg_name (i := 11) c_law_bars.nd rfl (.inl rfl))) (fun _ _ _ _ _ => pts_nil) (fun _ _ _ _ _ => (pe_callTy (call_tupK (K := K) rfl) (by rfl) M.tuple (by decide +kernel) (pa_cons (pv 11) pa_nil)))) pa_nil))))))))), ?_⟩
    have em : ((n : Nat) : Int).toNat = n := Int.toNat_natCast n
    have up : ∀ {H' H'' : Hp} {a b c : Addr}, (a = l ∨ H a = none) → (b = a ∨ H' b = none) → Kp (At w) H H' → WellAt w b H'' → (b = l ∨ H b = none) := fun {H' H'' a b c} ha hb k W => by
      rcases hb with hb | hb
      · rw [hb]
        exact ha
      · exact .inr (kp_free k hb (by
          obtain ⟨_, _, _, _, e, _⟩ := W
          exact e))
    refine ⟨_, rfl, _, rfl, by omega, by omega, fun D nD => ?_⟩
    rw [em]
    refine lc_it (walk_range (lo := 0) (n := n)) (fun i H' => Same H H' ∧ ∃ rs : List Addr, H' D = some (.lst (rs.map V.ref)) ∧ rs.length = i ∧ (∀ (i j : Nat) r, rs[i]? = some r → rs[j]? = some r → i = j) ∧ ∀ r ∈ rs, r ≠ D ∧ H r = none ∧ ∃ p, H' r = some (.lst (List.replicate n (.ref p))) ∧ H' p = some (.tup [.int 0, .int 1]))
      ⟨same_new nD, [], upd_same, rfl, fun i j r e => by simp at e, fun r hr => by simp at hr⟩ (fun i H _ p => trivial) ?_ ?_
    · rintro i x _ H2 hi ⟨s2, rs, eD, hl, nd, hrs⟩ ⟨rfl, rfl⟩
      refine ⟨rfl, ?_⟩
      unfold tYes
      refine ifT rfl ?_
      refine ⟨sz63 (by show 2 ≤ 1000; decide), fun t nt => ⟨sz63 (by show 1 ≤ 1000; decide), fun u nu => ⟨_, rfl, u, _, _, rfl, rfl, upd_same, by omega, by omega, ?_, fun r nr => ?_⟩⟩⟩
      · refine sz63 ?_
        show 1 * ((n : Int)).toNat ≤ 1000
        omega
      have en : (List.replicate ((n : Int)).toNat [V.ref t]).flatten = List.replicate n (.ref t) := by
        rw [Int.toNat_natCast]
        exact List.flatten_replicate_singleton
      rw [en]
      have s3 : Same H2 (upd (upd (upd H2 t (.tup [.int 0, .int 1])) u (.lst [.ref t])) r (.lst (List.replicate n (.ref t)))) := ((same_new nt).trans (same_new nu)).trans (same_new nr)
      have er : (upd (upd (upd H2 t (.tup [.int 0, .int 1])) u (.lst [.ref t])) r (.lst (List.replicate n (.ref t)))) r = some (.lst (List.replicate n (.ref t))) := upd_same
      have et : (upd (upd (upd H2 t (.tup [.int 0, .int 1])) u (.lst [.ref t])) r (.lst (List.replicate n (.ref t)))) t = some (.tup [.int 0, .int 1]) := ((same_new nu).trans (same_new nr)) _ _ upd_same
      have r2 : H2 r = none := ((same_new nt).trans (same_new nu)).free nr
      generalize upd (upd (upd H2 t (.tup [.int 0, .int 1])) u (.lst [.ref t])) r (.lst (List.replicate n (.ref t))) = H3 at s3 er et
      have eD3 := s3 _ _ eD
      have rD : r ≠ D := Ne.symm (ne_of_none eD r2)
      have keepL : ∀ {a : Addr} {o : HO} {acc : List V}, a ≠ D → H3 a = some o → (upd H3 D (.lst acc)) a = some o := fun ne e => by
        rw [upd_ne ne]
        exact e
      have tD : ∀ {t : Addr} {xs : List V}, H3 t = some (.tup xs) → t ≠ D := fun e z => by
        rw [z, eD3] at e
        cases e
      refine ⟨_, eD3, by rw [List.length_map]; exact sz63' (by omega), same_mut (s2.trans s3) nD, rs ++ [r], by rw [upd_same, List.map_append]; rfl, by rw [List.length_append, hl]; rfl, fun a b x ea eb => ?_, fun x hx => ?_⟩
      · have nin : ∀ (c : Nat), rs[c]? ≠ some r := fun c ec => by
          obtain ⟨_, _, p, h3, _⟩ := hrs r (List.mem_of_getElem? ec)
          rw [r2] at h3
          cases h3
        have la := (List.getElem?_eq_some_iff.mp ea).1
        have lb := (List.getElem?_eq_some_iff.mp eb).1
        rw [List.length_append, List.length_singleton] at la lb
        by_cases ca : a < rs.length
        · rw [List.getElem?_append_left ca] at ea
          by_cases cb : b < rs.length
          · rw [List.getElem?_append_left cb] at eb
            exact nd a b x ea eb
          · rw [List.getElem?_append_right (by omega), show b - rs.length = 0 by omega] at eb
            have : r = x := by simpa using eb
            rw [← this] at ea
            exact absurd ea (nin a)
        · rw [List.getElem?_append_right (by omega), show a - rs.length = 0 by omega] at ea
          have hx : r = x := by simpa using ea
          by_cases cb : b < rs.length
          · rw [List.getElem?_append_left cb, ← hx] at eb
            exact absurd eb (nin b)
          · omega
      · rcases List.mem_append.mp hx with hx | hx
        · obtain ⟨g1, g2, p, g3, g4⟩ := hrs x hx
          exact ⟨g1, g2, p, keepL g1 (s3 _ _ g3), keepL (tD (s3 _ _ g4)) (s3 _ _ g4)⟩
        · have : x = r := by simpa using hx
          subst this
          exact ⟨rD, s2.free r2, t, keepL rD er, keepL (tD et) et⟩
    rintro H2 ⟨s2, rs, eD, rl, rnd, hrs⟩
    obtain ⟨own1, h1, oD1, ro1, ind⟩ : ∃ own1, OwnH H H2 w l own1 ∧ own1 D = some (rs.map V.ref) ∧ RowsO own1 H2 rs n (fun _ _ => 0) ∧ ∀ b, b ∉ rs → b ≠ D → own1 b = none := by
      refine ⟨fun b => if b ∈ rs then (match H2 b with | some (.lst xs) => some xs | _ => none) else if b = D then some (rs.map V.ref) else none, ⟨Kp.same s2, well_sameS hW s2, fun a xs e => ?_⟩, ?_, ⟨rl, rnd, fun i r e => ?_⟩, fun b h1 h2 => by
        show (if b ∈ rs then _ else _) = _
        rw [if_neg h1, if_neg h2]⟩
      · try dsimp only at e
        by_cases c : a ∈ rs
        · rw [if_pos c] at e
          obtain ⟨g1, g2, p, g3, g4⟩ := hrs a c
          rw [g3] at e
          obtain rfl := Option.some.inj e
          exact ⟨g3, g2, (hW.ne g2).1, (hW.ne g2).2⟩
        · rw [if_neg c] at e
          by_cases c2 : a = D
          · subst c2
            rw [if_pos rfl] at e
            obtain rfl := Option.some.inj e
            exact ⟨eD, nD, (hW.ne nD).1, (hW.ne nD).2⟩
          · rw [if_neg c2] at e
            cases e
      · show (if D ∈ rs then _ else _) = _
        rw [if_neg fun z => (hrs D z).1 rfl, if_pos rfl]
      · obtain ⟨g1, g2, p, g3, g4⟩ := hrs r (List.mem_of_getElem? e)
        refine ⟨List.replicate n (.ref p), ?_, List.length_replicate, fun j v ev => ?_⟩
        · show (if r ∈ rs then _ else _) = _
          rw [if_pos (List.mem_of_getElem? e), g3]
        · rw [List.eq_of_mem_replicate (List.mem_of_getElem? ev)]
          exact ⟨p, rfl, g4⟩
    have rsD : ∀ r ∈ rs, r ≠ D := fun r hr => (hrs r hr).1
    clear hrs rnd eD s2 nD
    -- the order
    refine ⟨_, rfl, _, rfl, w, l, n, rfl, by omega, h1.W, fun H3 l3 p u k3 W3 hl3 p0 pw pl eP pu => ?_⟩
    have h3 := h1.pick k3 W3 hl3
    have q3 := up (c := w) (.inl rfl) hl3 h1.kp W3
    have ro3 := ro1.mono (own' := own1) (fun t xs e => k3 _ _ (h1.W.notTup e) e) fun r _ => rfl
    have pD : p ≠ D := fun z => by
      have := (h1.own _ _ oD1).1
      rw [← z, p0] at this
      cases this
    have prs : ∀ r ∈ rs, r ≠ p := fun r hr z => by
      obtain ⟨i, hi⟩ := List.mem_iff_getElem?.mp hr
      obtain ⟨xs, g1, _⟩ := ro1.row i r hi
      have := (h1.own _ _ g1).1
      rw [z, p0] at this
      cases this
    have h4 : OwnH H H3 w l3 (setO own1 p (nats u)) := ⟨h3.kp, h3.W, fun a xs e => by
      by_cases c : a = p
      · subst c
        rw [setO_same] at e
        obtain rfl := Option.some.inj e
        exact ⟨eP, kp_free h1.kp p0 pw, pw, pl⟩
      · rw [setO_ne c] at e
        exact h3.own a xs e⟩
    have oP4 : setO own1 p (nats u) p = some (nats u) := setO_same
    have oD4 : setO own1 p (nats u) D = some (rs.map V.ref) := by
      rw [setO_ne (Ne.symm pD)]
      exact oD1
    have ro4 := ro3.mono (own' := setO own1 p (nats u)) (fun t xs e => e) fun r hr => setO_ne (prs r hr)
    generalize setO own1 p (nats u) = own4 at h4 oP4 oD4 ro4
    clear h1 h3 ro1 ro3 oD1 ind k3 W3 hl3 eP p0 pl
    have ul : u.length = n := by
      have := pu.length_eq
      rwa [List.length_range] at this
    have und : u.Nodup := pu.nodup_iff.mpr List.nodup_range
    have ult : ∀ a, a < n → u.getD a 0 < n := fun a ha => by
      rw [List.getD_eq_getElem?_getD, List.getElem?_eq_getElem (by omega)]
      exact List.mem_range.mp (pu.mem_iff.mp (List.getElem_mem _))
    have unat : ∀ a, a < n → (nats u)[a]? = some (.int (u.getD a 0 : Nat)) := fun a ha => by
      unfold nats
      rw [List.getElem?_map, List.getD_eq_getElem?_getD, List.getElem?_eq_getElem (by omega)]
      rfl
    refine ⟨Nat.zero_le _, fun pl0 npl => ?_⟩
    have eq0 : upd H3 pl0 (.lst []) = upd H3 pl0 (.lst ((([] : List Addr)).map V.ref)) := rfl
    rw [eq0]
    have h5 := h4.add (ys := (([] : List Addr)).map V.ref) npl
    have nD : D ≠ pl0 := h4.ne npl oD4
    have nP : p ≠ pl0 := h4.ne npl oP4
    have nR : ∀ r ∈ rs, r ≠ pl0 := fun r hr => by
      obtain ⟨i, hi⟩ := List.mem_iff_getElem?.mp hr
      obtain ⟨xs, g1, _⟩ := ro4.row i r hi
      exact h4.ne npl g1
    have oD5 : setO own4 pl0 ((([] : List Addr)).map V.ref) D = some (rs.map V.ref) := by
      rw [setO_ne nD]
      exact oD4
    have oP5 : setO own4 pl0 ((([] : List Addr)).map V.ref) p = some (nats u) := by
      rw [setO_ne nP]
      exact oP4
    have oA5 : setO own4 pl0 ((([] : List Addr)).map V.ref) pl0 = some ((([] : List Addr)).map V.ref) := setO_same
    have s5 := same_new (o := .lst ((([] : List Addr)).map V.ref)) npl
    have ro5 := ro4.mono (own' := setO own4 pl0 ((([] : List Addr)).map V.ref)) (fun t xs e => s5 _ _ e) fun r hr => setO_ne (nR r hr)
    generalize upd H3 pl0 (.lst ((([] : List Addr)).map V.ref)) = H5 at h5 s5 ro5 ⊢
    generalize setO own4 pl0 ((([] : List Addr)).map V.ref) = own5 at h5 oD5 oP5 oA5 ro5
    clear h4 ro4 oD4 oP4 npl s5 own4 eq0
    refine ⟨sz63 (by show 3 ≤ 1000; decide), fun T0 nT0 => ⟨T0, _, rfl, .of upd_same, rfl, _, _, rfl, _, _, rfl, _, _, rfl, rfl, ?_⟩⟩
    have h6 := h5.new (o := .tup [.ref D, .ref p, .ref pl0]) nT0
    have s6 := same_new (o := .tup [.ref D, .ref p, .ref pl0]) nT0
    have ro6 := ro5.mono (own' := own5) (fun t xs e => s6 _ _ e) fun r _ => rfl
    generalize upd H5 T0 (.tup [.ref D, .ref p, .ref pl0]) = H6 at h6 s6 ro6 ⊢
    clear h5 ro5 nT0 s6
    -- a tie of a drawn weight, both ways
    refine ⟨_, rfl, 1, _, rfl, ⟨by omega, by omega, by omega, by omega⟩, ?_⟩
    have et : ((n : Int) - 1).toNat = n - 1 := by omega
    rw [et]
    refine for_range (lo := 1) (n := n - 1) (fun k σ H' => ∃ l' own R y7 y8 y9 y10, σ = [some (.ref w), some (.int (n : Nat)), some (.int (m : Nat)), some (.ref D), some (.ref p), some (.ref pl0), none, y7, y8, y9, y10, none] ∧ (l' = l ∨ H l' = none) ∧ OwnH H H' w l' own ∧ own D = some (rs.map V.ref) ∧ own p = some (nats u) ∧ own pl0 = some ((([] : List Addr)).map V.ref) ∧ RowsO own H' rs n R ∧ (∀ i j, WtQ (R i j)) ∧ (∀ i j, R i j = R j i) ∧
        ∀ a b, a < k + 1 → b < k + 1 → Reach (fun x y => x < n ∧ y < n ∧ 0 < R x y) (u.getD a 0) (u.getD b 0))
      ⟨l3, own5, fun _ _ => 0, _, _, _, _, rfl, q3, h6, oD5, oP5, oA5, ro6, fun _ _ => wt_nil, fun _ _ => rfl, fun a b ha hb => by
        have e1 : a = 0 := by omega
        have e2 : b = 0 := by omega
        rw [e1, e2]
        exact .refl⟩ ?_ ?_
    · clear h6 ro6 oD5 oP5 oA5
      rintro k σ H7 hk ⟨l7, own7, R, y7, y8, y9, y10, rfl, q7, h7, oD7, oP7, oA7, ro7, wtR, syR, conR⟩
      have e0 : (1 : Int) + ((k : Nat) : Int) = ((k + 1 : Nat) : Int) := by omega
      rw [e0]
      refine ⟨_, rfl, _, rfl, p, _, ((k + 1 : Nat) : Int), _, rfl, rfl, .of (h7.own _ _ oP7).1, atI_nat (unat (k + 1) (by omega)), ?_⟩
      refine ⟨_, rfl, _, rfl, _, rfl, w, l7, _, rfl, by omega, by omega, h7.W, fun H8 d l8 d0 d1 k8 W8 hl8 => ?_⟩
      have h8 := h7.pick k8 W8 hl8
      have q8 := up (c := w) q7 hl8 h7.kp W8
      have ro8 := ro7.mono (own' := own7) (fun t xs e => k8 _ _ (h7.W.notTup e) e) fun r _ => rfl
      obtain ⟨e, rfl⟩ : ∃ e : Nat, d = (e : Int) := ⟨d.toNat, by omega⟩
      have he : e < k + 1 := by omega
      refine ⟨p, _, (e : Int), _, rfl, rfl, .of (h8.own _ _ oP7).1, atI_nat (unat e (by omega)), ?_⟩
      refine ⟨_, rfl, w, l8, rfl, h8.W, fun H9 l9 z q0 qp qw k9 W9 hl9 zw ez => ?_⟩
      have h9 := h8.pick k9 W9 hl9
      have q9 := up (c := w) q8 hl9 h8.kp W9
      have ro9 := ro8.mono (own' := own7) (fun t xs e => k9 _ _ (h8.W.notTup e) e) fun r _ => rfl
      have fz9 : FrA H9 (.ref z) q0 := ⟨z, rfl, ez⟩
      refine ⟨sz63 (by show 3 ≤ 1000; decide), fun T nT => ⟨T, _, rfl, .of upd_same, rfl, _, _, rfl, _, _, rfl, _, _, rfl, rfl, ?_⟩⟩
      have hT := h9.new (o := .tup [.int (u.getD (k + 1) 0 : Nat), .int (u.getD e 0 : Nat), .ref z]) nT
      have sT := same_new (o := .tup [.int (u.getD (k + 1) 0 : Nat), .int (u.getD e 0 : Nat), .ref z]) nT
      have roT := ro9.mono (own' := own7) (fun t xs e => sT _ _ e) fun r _ => rfl
      have fzT := fz9.same sT
      generalize upd H9 T (.tup [.int (u.getD (k + 1) 0 : Nat), .int (u.getD e 0 : Nat), .ref z]) = HT at hT sT roT fzT ⊢
      have l1' := ult (k + 1) (by omega)
      have l2' := ult e (by omega)
      generalize hh : u.getD (k + 1) 0 = a at l1' ⊢
      generalize ht : u.getD e 0 = b at l2' ⊢
      obtain ⟨r, xs, er, oR, xl, xa⟩ := roT.at l1'
      have rm := List.mem_of_getElem? er
      refine ⟨_, rfl, _, rfl, _, rfl, D, _, (a : Int), .ref r, rfl, rfl, .of (hT.own _ _ oD7).1, atI_nat (by rw [List.getElem?_map, er]; rfl), _, rfl, r, xs, (b : Int), b, rfl, rfl, (hT.own _ _ oR).1, ixNat (by omega), ?_⟩
      have hX := hT.set (ys := xs.set b (.ref z)) oR
      have roX := roT.set (b := b) hT er oR fzT
      have fzX := fzT.frame (o := .lst (xs.set b (.ref z))) (hT.nt oR)
      have oDX : setO own7 r (xs.set b (.ref z)) D = some (rs.map V.ref) := by
        rw [setO_ne (Ne.symm (rsD r rm))]
        exact oD7
      have oPX : setO own7 r (xs.set b (.ref z)) p = some (nats u) := by
        rw [setO_ne (Ne.symm (prs r rm))]
        exact oP7
      have oAX : setO own7 r (xs.set b (.ref z)) pl0 = some ((([] : List Addr)).map V.ref) := by
        rw [setO_ne (Ne.symm (nR r rm))]
        exact oA7
      generalize upd HT r (.lst (xs.set b (.ref z))) = HX at hX roX fzX ⊢
      generalize setO own7 r (xs.set b (.ref z)) = ownX at hX roX oDX oPX oAX
      clear hT roT fzT oR xa er h9 ro9 fz9 h8 ro8 k8 W8 k9 W9
      obtain ⟨r2, xs2, er2, oR2, xl2, xa2⟩ := roX.at l2'
      have rm2 := List.mem_of_getElem? er2
      refine ⟨_, rfl, _, rfl, _, rfl, D, _, (b : Int), .ref r2, rfl, rfl, .of (hX.own _ _ oDX).1, atI_nat (by rw [List.getElem?_map, er2]; rfl), _, rfl, r2, xs2, (a : Int), a, rfl, rfl, (hX.own _ _ oR2).1, ixNat (by omega), ?_⟩
      have hY := hX.set (ys := xs2.set a (.ref z)) oR2
      have roY := roX.set (b := a) hX er2 oR2 fzX
      refine ⟨l9, _, set2 R a b q0, _, _, _, _, rfl, q9, hY, by rw [setO_ne (Ne.symm (rsD r2 rm2))]; exact oDX, by rw [setO_ne (Ne.symm (prs r2 rm2))]; exact oPX, by rw [setO_ne (Ne.symm (nR r2 rm2))]; exact oAX, roY, set2_wt wtR qw, set2_sy syR, fun x y hx hy => ?_⟩
      have old : ∀ x y, x < k + 1 → y < k + 1 → Reach (fun x y => x < n ∧ y < n ∧ 0 < set2 R a b q0 x y) (u.getD x 0) (u.getD y 0) := fun x y hx hy => (conR x y hx hy).mono fun i j e => ⟨e.1, e.2.1, set2_pos qp e.2.2⟩
      have ab : Reach (fun x y => x < n ∧ y < n ∧ 0 < set2 R a b q0 x y) a b := .one ⟨l1', l2', (set2_at qp).1⟩
      have ba : Reach (fun x y => x < n ∧ y < n ∧ 0 < set2 R a b q0 x y) b a := .one ⟨l2', l1', (set2_at qp).2⟩
      by_cases cx : x < k + 1
      · by_cases cy : y < k + 1
        · exact old x y cx cy
        · have ey : y = k + 1 := by omega
          rw [ey, hh]
          have := old x e cx he
          rw [ht] at this
          exact this.trans ba
      · have ex : x = k + 1 := by omega
        rw [ex, hh]
        by_cases cy : y < k + 1
        · have := old e y he cy
          rw [ht] at this
          exact ab.trans this
        · have ey : y = k + 1 := by omega
          rw [ey, hh]
          exact .refl
    · clear h6 ro6 oD5 oP5 oA5
      rintro σ H7 ⟨l7, own7, R, y7, y8, y9, y10, rfl, q7, h7, oD7, oP7, oA7, ro7, wtR, syR, conR⟩
      have on : ∀ i, i < n → ∃ a, a < n ∧ u.getD a 0 = i := fun i hi => by
        obtain ⟨a, ha⟩ := List.mem_iff_getElem?.mp (pu.mem_iff.mpr (List.mem_range.mpr hi))
        have la := (List.getElem?_eq_some_iff.mp ha).1
        exact ⟨a, by omega, by rw [List.getD_eq_getElem?_getD, ha]; rfl⟩
      have con : ∀ a b, a < n → b < n → Reach (fun x y => x < n ∧ y < n ∧ 0 < R x y) a b := fun a b ha hb => by
        obtain ⟨x, hx, rfl⟩ := on a ha
        obtain ⟨y, hy, rfl⟩ := on b hb
        exact conR x y (by omega) (by omega)
      clear conR on
      -- what is no tie yet
      refine ⟨_, rfl, _, rfl, by omega, by omega, ?_⟩
      rw [em]
      refine for_range (lo := 0) (n := n) (fun i σ H' => ∃ own qA ts E y7 y8 y9 y10, σ = [some (.ref w), some (.int (n : Nat)), some (.int (m : Nat)), some (.ref D), some (.ref p), some (.ref qA), none, y7, y8, y9, y10, none] ∧ OwnH H H' w l7 own ∧ own D = some (rs.map V.ref) ∧ own qA = some (ts.map V.ref) ∧ RowsO own H' rs n R ∧ TupsAt H' ts E ∧ (∀ e ∈ E, e.1 < n ∧ e.2 < n) ∧ E.length ≤ 6 * i ∧ D ≠ qA ∧ ∀ r ∈ rs, r ≠ qA)
        ⟨own7, pl0, [], [], _, _, _, _, rfl, h7, oD7, oA7, ro7, ⟨rfl, fun i t e h1 => by simp at h1⟩, fun e he => by simp at he, Nat.zero_le _, nD, nR⟩ ?_ ?_
      · clear h7 oD7 oP7 oA7 ro7
        rintro i σ H8 hi ⟨own8, qA, ts, E, y7, y8, y9, y10, rfl, h8, oD8, oA8, ro8, tp8, lt8, el8, dA, rA⟩
        have e0 : (0 : Int) + ((i : Nat) : Int) = ((i : Nat) : Int) := by omega
        rw [e0]
        refine ⟨_, rfl, _, rfl, _, rfl, by omega, by omega, fun D2 nD2 => ?_⟩
        have ei : ((i : Nat) : Int).toNat = i := Int.toNat_natCast i
        rw [ei]
        refine lc_it (walk_range (lo := 0) (n := i)) (fun j H' => Same H8 H' ∧ ∃ ts2 E2, H' D2 = some (.lst (ts2.map V.ref)) ∧ TupsAt H' ts2 E2 ∧ E2.length ≤ j ∧ ∀ e ∈ E2, e.1 < n ∧ e.2 < n)
          ⟨same_new nD2, [], [], upd_same, ⟨rfl, fun i t e h1 => by simp at h1⟩, Nat.le_refl _, fun e he => by simp at he⟩ (fun i H _ p => trivial) ?_ ?_
        · rintro j x _ H9 hj ⟨s9, ts2, E2, eD2, tp2, el2, lt2⟩ ⟨rfl, rfl⟩
          have f0 : (0 : Int) + ((j : Nat) : Int) = ((j : Nat) : Int) := by omega
          dsimp only
          rw [f0]
          obtain ⟨r, xs, er, oR, xl, xa⟩ := ro8.at hi
          have ev : xs[j]? = some (xs[j]'(by omega)) := List.getElem?_eq_getElem (by omega)
          obtain ⟨cA, ec, ecA⟩ := xa j _ ev
          rw [ec] at ev
          refine ⟨rfl, _, rfl, _, rfl, D, _, (i : Int), .ref r, rfl, rfl, .of (s9 _ _ (h8.own _ _ oD8).1), atI_nat (by rw [List.getElem?_map, er]; rfl), _, rfl, r, xs, (j : Int), .ref cA, rfl, rfl, .of (s9 _ _ (h8.own _ _ oR).1), atI_nat ev, cA, _, 0, _, rfl, rfl, .of (s9 _ _ ecA), rfl, rfl, _, rfl, ite2 (fun c => ?_) (fun c => ?_)⟩
          · refine ⟨_, rfl, _, rfl, sz63 (by show 2 ≤ 1000; decide), fun t nt => ?_⟩
            have s10 := same_new (o := .tup [.int (i : Nat), .int (j : Nat)]) nt
            have e10 : (upd H9 t (.tup [.int (i : Nat), .int (j : Nat)])) t = some (.tup [.int (i : Nat), .int (j : Nat)]) := upd_same
            have tp10 := tp2.mono fun t xs e => s10 _ _ e
            have eD10 := s10 _ _ eD2
            generalize upd H9 t (.tup [.int (i : Nat), .int (j : Nat)]) = H10 at s10 e10 tp10 eD10 ⊢
            have ktD := tup_frame (H := H10) (m := D2) (o := .lst (ts2.map V.ref ++ [.ref t])) fun ys => by
              rw [eD10]
              exact fun z => nomatch z
            refine ⟨_, eD10, by rw [List.length_map, tp2.1]; exact sz63' (by omega), same_mut (s9.trans s10) nD2, ts2 ++ [t], E2 ++ [(i, j)], by rw [upd_same, List.map_append]; rfl, (tp10.mono ktD).snoc (ktD _ _ e10), by rw [List.length_append]; show E2.length + 1 ≤ _; omega, fun e he => ?_⟩
            rcases List.mem_append.mp he with he | he
            · exact lt2 e he
            · rw [List.mem_singleton.mp he]
              exact ⟨hi, by omega⟩
          · exact ⟨s9, ts2, E2, eD2, tp2, by omega, lt2⟩
        · rintro H9 ⟨s9, ts2, E2, eD2, tp2, el2, lt2⟩
          have tl := tp8.1
          have tl2 := tp2.1
          have h9 : OwnH H H9 w l7 own8 := ⟨h8.kp.trans (Kp.same s9), well_sameS h8.W s9, fun a zs e => by
            obtain ⟨g1, g2, g3, g4⟩ := h8.own a zs e
            exact ⟨s9 _ _ g1, g2, g3, g4⟩⟩
          refine ⟨qA, D2, _, _, rfl, rfl, (h9.own _ _ oA8).1, eD2, sz63 (by rw [List.length_map, List.length_map]; omega), fun mA nm => ?_⟩
          have s10 := same_new (o := .lst (ts.map V.ref ++ ts2.map V.ref)) nm
          have h10 := h9.add (ys := ts.map V.ref ++ ts2.map V.ref) nm
          have dM : D ≠ mA := h9.ne nm oD8
          have rM : ∀ r ∈ rs, r ≠ mA := fun r hr => by
            obtain ⟨k, hk⟩ := List.mem_iff_getElem?.mp hr
            obtain ⟨xs, g1, _⟩ := ro8.row k r hk
            exact h9.ne nm g1
          refine ⟨_, mA, ts ++ ts2, E ++ E2, _, _, _, _, rfl, h10, by rw [setO_ne dM]; exact oD8, by rw [setO_same, List.map_append], (ro8.mono (own' := own8) (fun t xs e => s9 _ _ e) fun r _ => rfl).mono (fun t xs e => s10 _ _ e) fun r hr => setO_ne (rM r hr), ⟨by rw [List.length_append, List.length_append, tl, tl2], fun i t e h1 h2 => ?_⟩, fun e he => ?_, by rw [List.length_append]; omega, dM, rM⟩
          · by_cases c : i < ts.length
            · rw [List.getElem?_append_left c] at h1
              rw [List.getElem?_append_left (by omega)] at h2
              exact s10 _ _ (s9 _ _ (tp8.2 i t e h1 h2))
            · rw [List.getElem?_append_right (by omega)] at h1
              rw [List.getElem?_append_right (by omega), ← tl] at h2
              exact s10 _ _ (tp2.2 _ t e h1 h2)
          · rcases List.mem_append.mp he with he | he
            · exact lt8 e he
            · exact lt2 e he
      · clear h7 oD7 oP7 oA7 ro7
        rintro σ H8 ⟨own8, qA, ts, E, y7, y8, y9, y10, rfl, h8, oD8, oA8, ro8, tp8, lt8, el8, dA, rA⟩
        have tl8 := tp8.1
        refine ⟨_, rfl, _, rfl, _, rfl, qA, _, rfl, .inl (.of (h8.own _ _ oA8).1), _, _, rfl, _, _, rfl, rfl, w, l7, _, rfl, ?_, ?_, h8.W, fun H9 d l9 d0 d1 k9 W9 hl9 => ?_⟩
        · rw [List.length_map]
          split <;> omega
        · rw [List.length_map]
          split <;> omega
        have dl : d.toNat ≤ E.length := by
          rw [List.length_map] at d1
          split at d1 <;> omega
        have h9 := h8.pick k9 W9 hl9
        have q9 := up (c := w) q7 hl9 h8.kp W9
        have kt9 : ∀ t xs, H8 t = some (.tup xs) → H9 t = some (.tup xs) := fun t xs e => k9 _ _ (h8.W.notTup e) e
        have ro9 := ro8.mono (own' := own8) kt9 fun r _ => rfl
        have tp9 := tp8.mono kt9
        have dm : d.toNat ≤ 40 := by omega
        refine ⟨_, rfl, by omega, by omega, ?_⟩
        refine for_range (lo := 0) (n := d.toNat) (fun t σ H' => ∃ l' own R ts' E' y6 y7 y8 y9 y10, σ = [some (.ref w), some (.int (n : Nat)), some (.int (m : Nat)), some (.ref D), some (.ref p), some (.ref qA), y6, y7, y8, y9, y10, none] ∧ (l' = l ∨ H l' = none) ∧ OwnH H H' w l' own ∧ own D = some (rs.map V.ref) ∧ own qA = some (ts'.map V.ref) ∧ RowsO own H' rs n R ∧ TupsAt H' ts' E' ∧ (∀ e ∈ E', e.1 < n ∧ e.2 < n) ∧ E'.length + t = E.length ∧
            (∀ i j, WtQ (R i j)) ∧ (∀ i j, R i j = R j i) ∧ ∀ a b, a < n → b < n → Reach (fun x y => x < n ∧ y < n ∧ 0 < R x y) a b)
          ⟨l9, own8, R, ts, E, _, _, _, _, _, rfl, q9, h9, oD8, oA8, ro9, tp9, lt8, rfl, wtR, syR, con⟩ ?_ ?_
        · clear h8 oD8 oA8 ro8 tp8 lt8 h9 ro9 tp9 wtR syR con k9 W9 hl9 kt9 tl8
          rintro t σ HA ht ⟨lA, ownA, R, tsA, EA, y6, y7, y8, y9, y10, rfl, qAl, hA, oDA, oAA, roA, tpA, ltA, elA, wtR, syR, con⟩
          have tlA := tpA.1
          refine ⟨_, rfl, .inl ⟨rfl, _, .of (hA.own _ _ oAA).1⟩, _, rfl, _, rfl, qA, _, rfl, .inl (.of (hA.own _ _ oAA).1), w, lA, _, rfl, by rw [List.length_map]; omega, by rw [List.length_map]; omega, hA.W, fun HB dB lB dB0 dB1 kB WB hlB => ?_⟩
          rw [List.length_map] at dB1
          have hB := hA.pick kB WB hlB
          have qB := up (c := w) qAl hlB hA.kp WB
          have ktB : ∀ t xs, HA t = some (.tup xs) → HB t = some (.tup xs) := fun t xs e => kB _ _ (hA.W.notTup e) e
          have roB := roA.mono (own' := ownA) ktB fun r _ => rfl
          have tpB := tpA.mono ktB
          obtain ⟨i, rfl⟩ : ∃ i : Nat, dB = (i : Int) := ⟨dB.toNat, by omega⟩
          have hi : i < tsA.length := by omega
          have ets : tsA[i]? = some tsA[i] := List.getElem?_eq_getElem hi
          have eE : EA[i]? = some (EA[i]'(by omega)) := List.getElem?_eq_getElem (by omega)
          generalize tsA[i] = tt at ets
          generalize EA[i]'(by omega) = ee at eE
          obtain ⟨l1', l2'⟩ := ltA _ (List.mem_of_getElem? eE)
          have ett := tpB.2 i tt ee ets eE
          refine ⟨qA, _, _, i, .ref tt, rfl, rfl, (hB.own _ _ oAA).1, by omega, by omega, seqI (by rw [List.length_map]; exact hi), by rw [List.getElem?_map, ets]; rfl, ?_⟩
          rw [refs_erase]
          have hC := hB.set (ys := (tsA.eraseIdx i).map V.ref) oAA
          have ktC := tup_frame (o := .lst ((tsA.eraseIdx i).map V.ref)) (hB.nt oAA)
          have roC := roB.mono (own' := setO ownA qA ((tsA.eraseIdx i).map V.ref)) ktC fun r hr => setO_ne (rA r hr)
          have tpC := (tpB.mono ktC).erase i
          have ettC := ktC _ _ ett
          have oDC : setO ownA qA ((tsA.eraseIdx i).map V.ref) D = some (rs.map V.ref) := by
            rw [setO_ne dA]
            exact oDA
          have oAC : setO ownA qA ((tsA.eraseIdx i).map V.ref) qA = some ((tsA.eraseIdx i).map V.ref) := setO_same
          generalize upd HB qA (.lst ((tsA.eraseIdx i).map V.ref)) = HC at hC roC tpC ettC ⊢
          generalize setO ownA qA ((tsA.eraseIdx i).map V.ref) = ownT at hC roC oDC oAC
          have oDT := oDC
          have oAT : ownT qA = some ((tsA.eraseIdx i).map V.ref) := oAC
          clear hA roA tpA hB roB tpB ktB ktC oDA oAA kB WB hlB ett
          refine ⟨tt, _, rfl, .of ettC, rfl, _, _, rfl, _, _, rfl, rfl, ?_⟩
          refine ⟨_, rfl, w, lB, rfl, hC.W, fun HT lT z q0 qp qw kT WT hlT zw ez => ?_⟩
          have hT := hC.pick kT WT hlT
          have qT := up (c := w) qB hlT hC.kp WT
          have ktT : ∀ t xs, HC t = some (.tup xs) → HT t = some (.tup xs) := fun t xs e => kT _ _ (hC.W.notTup e) e
          have roT := roC.mono (own' := ownT) ktT fun r _ => rfl
          have tpT := tpC.mono ktT
          have fzT : FrA HT (.ref z) q0 := ⟨z, rfl, ez⟩
          have elT : (EA.eraseIdx i).length + (t + 1) = E.length := by
            rw [List.length_eraseIdx_of_lt (by omega)]
            omega
          have ltT : ∀ e ∈ EA.eraseIdx i, e.1 < n ∧ e.2 < n := fun e he => ltA e (List.mem_of_mem_eraseIdx he)
          generalize tsA.eraseIdx i = tsT at tpT oAT
          generalize EA.eraseIdx i = ET at tpT elT ltT
          obtain ⟨a, b⟩ := ee
          dsimp only at l1' l2'
          try dsimp only
          clear hC roC tpC ettC oDC oAC ets eE
          obtain ⟨r, xs, er, oR, xl, xa⟩ := roT.at l1'
          have rm := List.mem_of_getElem? er
          refine ⟨_, rfl, _, rfl, _, rfl, D, _, (a : Int), .ref r, rfl, rfl, .of (hT.own _ _ oDT).1, atI_nat (by rw [List.getElem?_map, er]; rfl), _, rfl, r, xs, (b : Int), b, rfl, rfl, (hT.own _ _ oR).1, ixNat (by omega), ?_⟩
          have hX := hT.set (ys := xs.set b (.ref z)) oR
          have roX := roT.set (b := b) hT er oR fzT
          have ktX := tup_frame (o := .lst (xs.set b (.ref z))) (hT.nt oR)
          have fzX := fzT.frame (o := .lst (xs.set b (.ref z))) (hT.nt oR)
          have tpX := tpT.mono ktX
          have oDX : setO ownT r (xs.set b (.ref z)) D = some (rs.map V.ref) := by
            rw [setO_ne (Ne.symm (rsD r rm))]
            exact oDT
          have oAX : setO ownT r (xs.set b (.ref z)) qA = some (tsT.map V.ref) := by
            rw [setO_ne (Ne.symm (rA r rm))]
            exact oAT
          generalize upd HT r (.lst (xs.set b (.ref z))) = HX at hX roX fzX tpX ⊢
          generalize setO ownT r (xs.set b (.ref z)) = ownX at hX roX oDX oAX
          clear hT roT fzT oR xa er tpT ktX
          obtain ⟨r2, xs2, er2, oR2, xl2, xa2⟩ := roX.at l2'
          have rm2 := List.mem_of_getElem? er2
          refine ⟨_, rfl, _, rfl, _, rfl, D, _, (b : Int), .ref r2, rfl, rfl, .of (hX.own _ _ oDX).1, atI_nat (by rw [List.getElem?_map, er2]; rfl), _, rfl, r2, xs2, (a : Int), a, rfl, rfl, (hX.own _ _ oR2).1, ixNat (by omega), ?_⟩
          have hY := hX.set (ys := xs2.set a (.ref z)) oR2
          have roY := roX.set (b := a) hX er2 oR2 fzX
          have tpY := tpX.mono (tup_frame (o := .lst (xs2.set a (.ref z))) (hX.nt oR2))
          exact ⟨lT, _, set2 R a b q0, tsT, ET, _, _, _, _, _, rfl, qT, hY, by rw [setO_ne (Ne.symm (rsD r2 rm2))]; exact oDX, by rw [setO_ne (Ne.symm (rA r2 rm2))]; exact oAX, roY, tpY, ltT, elT, set2_wt wtR qw, set2_sy syR, fun x y hx hy => (con x y hx hy).mono fun i j e => ⟨e.1, e.2.1, set2_pos qp e.2.2⟩⟩
        · clear h8 oD8 oA8 ro8 tp8 lt8 h9 ro9 tp9 wtR syR con k9 W9 hl9 kt9 tl8
          rintro σ HA ⟨lA, ownA, R, tsA, EA, y6, y7, y8, y9, y10, rfl, qAl, hA, oDA, oAA, roA, tpA, ltA, elA, wtR, syR, con⟩
          have hB0 := roA.len
          refine ⟨_, rfl, _, rfl, by omega, by omega, ?_⟩
          rw [em]
          refine for_range (lo := 0) (n := n) (fun t σ H' => ∃ l' own R y6 y7 y8 y9 y10, σ = [some (.ref w), some (.int (n : Nat)), some (.int (m : Nat)), some (.ref D), some (.ref p), some (.ref qA), y6, y7, y8, y9, y10, none] ∧ (l' = l ∨ H l' = none) ∧ OwnH H H' w l' own ∧ own D = some (rs.map V.ref) ∧ RowsO own H' rs n R ∧ (∀ i j, WtQ (R i j)) ∧ (∀ i j, R i j = R j i) ∧ (∀ a b, a < n → b < n → Reach (fun x y => x < n ∧ y < n ∧ 0 < R x y) a b) ∧ (n = 1 → 0 < t → 0 < R 0 0))
            ⟨lA, ownA, R, _, _, _, _, _, rfl, qAl, hA, oDA, roA, wtR, syR, con, fun _ z => absurd z (by omega)⟩ ?_ ?_
          · clear hA oDA oAA roA tpA ltA elA wtR syR con qAl
            rintro t σ HB ht ⟨lB, ownB, R, y6, y7, y8, y9, y10, rfl, qB, hB, oDB, roB, wtR, syR, con, p0⟩
            rw [show ((0 : Int) + (t : Nat)) = (t : Nat) from by omega]
            refine ⟨_, rfl, rfl, _, rfl, ite2 (fun c => ite2 (fun _ => ?_) fun z => absurd rfl z) (fun c => ?_)⟩
            · have hC := hB
              have roC := roB
              have qC := qB
              generalize lB = lC at hC qC
              generalize HB = HC at hC roC
              clear c hB roB qB p0
              refine ⟨_, rfl, w, lC, rfl, hC.W, fun HT lT z q0 qp qw kT WT hlT zw ez => ?_⟩
              have hT := hC.pick kT WT hlT
              have qT := up (c := w) qC hlT hC.kp WT
              have roT := roC.mono (own' := ownB) (fun t xs e => kT _ _ (hC.W.notTup e) e) fun r _ => rfl
              have fzT : FrA HT (.ref z) q0 := ⟨z, rfl, ez⟩
              obtain ⟨r, xs, er, oR, xl, xa⟩ := roT.at (i := t) (by omega)
              have rm := List.mem_of_getElem? er
              refine ⟨_, rfl, _, rfl, D, _, (t : Int), .ref r, rfl, rfl, .of (hT.own _ _ oDB).1, atI_nat (by rw [List.getElem?_map, er]; rfl), _, rfl, r, xs, (t : Int), t, rfl, rfl, (hT.own _ _ oR).1, ixNat (by omega), ?_⟩
              have hX := hT.set (ys := xs.set t (.ref z)) oR
              have roX := roT.set (b := t) hT er oR fzT
              exact ⟨lT, _, _, _, _, _, _, _, rfl, qT, hX, by rw [setO_ne (Ne.symm (rsD r rm))]; exact oDB, roX, dg_wt wtR qw, dg_sy syR, fun x y hx hy => (con x y hx hy).mono fun i j e => ⟨e.1, e.2.1, dg_pos qp e.2.2⟩, fun z1 _ => by
                obtain rfl : t = 0 := by omega
                exact dg_at qp⟩
            · have cn : n ≠ 1 := fun z => c (decide_eq_true (by rw [z]; rfl))
              refine ⟨_, rfl, w, lB, _, rfl, by omega, by omega, hB.W, fun HC d lC d0 d1 kC WC hlC => ?_⟩
              have hC := hB.pick kC WC hlC
              have qC := up (c := w) qB hlC hB.kp WC
              have roC := roB.mono (own' := ownB) (fun t xs e => kC _ _ (hB.W.notTup e) e) fun r _ => rfl
              refine ⟨rfl, _, rfl, ite2 (fun c => ?_) (fun c => ?_)⟩
              · refine ⟨_, rfl, w, lC, rfl, hC.W, fun HT lT z q0 qp qw kT WT hlT zw ez => ?_⟩
                have hT := hC.pick kT WT hlT
                have qT := up (c := w) qC hlT hC.kp WT
                have roT := roC.mono (own' := ownB) (fun t xs e => kT _ _ (hC.W.notTup e) e) fun r _ => rfl
                have fzT : FrA HT (.ref z) q0 := ⟨z, rfl, ez⟩
                obtain ⟨r, xs, er, oR, xl, xa⟩ := roT.at (i := t) (by omega)
                have rm := List.mem_of_getElem? er
                refine ⟨_, rfl, _, rfl, D, _, (t : Int), .ref r, rfl, rfl, .of (hT.own _ _ oDB).1, atI_nat (by rw [List.getElem?_map, er]; rfl), _, rfl, r, xs, (t : Int), t, rfl, rfl, (hT.own _ _ oR).1, ixNat (by omega), ?_⟩
                have hX := hT.set (ys := xs.set t (.ref z)) oR
                have roX := roT.set (b := t) hT er oR fzT
                exact ⟨lT, _, _, _, _, _, _, _, rfl, qT, hX, by rw [setO_ne (Ne.symm (rsD r rm))]; exact oDB, roX, dg_wt wtR qw, dg_sy syR, fun x y hx hy => (con x y hx hy).mono fun i j e => ⟨e.1, e.2.1, dg_pos qp e.2.2⟩, fun z1 _ => by
                  obtain rfl : t = 0 := by omega
                  exact dg_at qp⟩
              · exact ⟨lC, ownB, R, _, _, _, _, _, rfl, qC, hC, oDB, roC, wtR, syR, con, fun z => absurd z cn⟩
          · clear hA oDA oAA roA tpA ltA elA wtR syR con qAl
            rintro σ HA ⟨lA', ownA, R, y6, y7, y8, y9, y10, rfl, qA', hA, oDA, roA, wtA, syA, con9, p0⟩
            have bn : Bnds n R := by
              refine ⟨wtA, syA, con9, fun i hi => ?_⟩
              by_cases c : n = 1
              · refine ⟨0, by omega, ?_⟩
                have : i = 0 := by omega
                rw [this]
                exact p0 c (by omega)
              · obtain ⟨b, hb, ne⟩ : ∃ b, b < n ∧ i ≠ b := by
                  by_cases z : i = 0
                  · exact ⟨1, by omega, by omega⟩
                  · exact ⟨0, by omega, by omega⟩
                obtain ⟨x, _, e⟩ := reach_first (con9 i b hi hb) ne
                exact ⟨x, e.2.1, e.2.2⟩
            have hwn : HA w ≠ none := by
              obtain ⟨_, _, _, e, _⟩ := hA.W
              rw [e]
              exact fun z => nomatch z
            have hlen := roA.len
            refine ⟨_, rfl, D, rfl, ⟨_, .of (hA.own _ _ oDA).1⟩, fun D2 nD2 => ?_⟩
            refine lc_rel (walk_list (K := K) (a := D) (xs := rs.map V.ref)) No (fun H' i y => Dq (fun a => At w a ∨ a = D2) H' y (rowD ((List.range n).map fun j => R i j)))
              (fun Ha Hb i v k r => r.keep (k.mono fun b z => z.elim (fun z => z.elim) .inr)) nD2 (fun _ z => z.elim) (by rw [List.length_map]; omega) (fun H' k' => .of (k' _ _ id (hA.own _ _ oDA).1)) ?_ ?_
            · rintro i x HB _ Q' hi kB nDB ⟨rfl, hx⟩ q'
              obtain ⟨r, hr, rfl⟩ := map_some hx
              have sB := no_same kB
              obtain ⟨xs, oR, xl, xa⟩ := roA.row i r hr
              refine ⟨rfl, _, rfl, r, xs, rfl, .inl ⟨.of (sB _ _ (hA.own _ _ oR).1), fun t nt => ?_⟩⟩
              refine q' _ _ (Kp.new nt) (.tup (fun z => ?_) upd_same ?_)
              · rcases z with z | z
                · rw [show t = w from z] at nt
                  exact hwn (sB.free nt)
                · rw [z] at nt
                  exact nDB nt
              · refine dqAll_of (by rw [List.length_map, List.length_map, List.length_range, xl]) fun j v ev => ?_
                have hj : j < n := by
                  have := (List.getElem?_eq_some_iff.mp ev).1
                  omega
                obtain ⟨p, rfl, ep⟩ := xa j v ev
                refine ⟨_, by rw [List.getElem?_map, List.getElem?_map, List.getElem?_range hj]; rfl, fr_dq (fun z => ?_) (same_new nt _ _ (sB _ _ ep))⟩
                rcases z with z | z
                · exact hA.W.notTup ep z
                · rw [z, nD2] at ep
                  cases ep
            · rintro HB acc kB eDB hla ha
              have sB := no_same kB
              rw [List.length_map, hlen] at hla
              refine ⟨D2, acc, rfl, .inl ⟨.of eDB, fun t nt => ?_⟩⟩
              have WB := well_sameS hA.W sB
              refine q _ lA' _ R ((hA.kp.trans (Kp.same sB)).trans (Kp.new nt)) (WB.new nt) qA' (.tup (WB.ne nt).1 upd_same ?_) bn
              have all : DqAll (fun a => At w a ∨ a = D2) HB acc ((tabF n R).map rowD) := dqAll_of (by unfold tabF; rw [List.length_map, List.length_map, List.length_range, hla]) fun i v e => by
                have hi : i < n := by
                  have := (List.getElem?_eq_some_iff.mp e).1
                  omega
                exact ⟨_, by unfold tabF; rw [List.getElem?_map, List.getElem?_map, List.getElem?_range hi]; rfl, ha i v e⟩
              exact (all.keep (Kp.new nt)).weak fun b z => .inl z
end
end Kx
set_option exponentiation.threshold 4000
/-! A drawn walk of three sorts (second family of drawings). -/
namespace Kx
open PySem PySem.Spec PyProof.Rows L2 Bw
abbrev s_law_going : Stmt := topS 44
abbrev n_law_going : List Str := ["well", "size", "way"]
theorem c_law_going : FnScope n_law_going ["well", "size"] (defScope s_law_going) :=
  ⟨rfl, rfl, rfl, by decide +kernel, rfl, by decide +kernel, by decide +kernel⟩

theorem wkb_weak {B C n : Nat} {M : List (List Nat)} (h : WkB B n M) (c : B ≤ C) (hC : C ≤ 300) : WkB C n M :=
  WkS.wide h (fun _ _ => c) (by
    rw [bS_cst]
    have h1 : n * (C + 3) ≤ 6 * (C + 3) := Nat.mul_le_mul_right _ h.n6
    omega)
section
variable {P : Program} {w : World} {K : PySem.W.Frag} {mg : Str → Option Value} {base : Heap}
theorem ok_lgoing {f : Addr} {fd : FuncData} (F : Fun K "_law_going" "_law_going" s_law_going f fd) (M : Mb mg) (Dlaw_draw : Df P w K mg base 1 "_law_draw" ["well", "limit"] spPickL) (Dlaw_bars : Df P w K mg base 3 "_law_bars" ["well", "size", "most"] spBars) (Dlaw_walk_of : Df P w K mg base 5 "_law_walk_of" ["bars"] spWalkBy) (Dlaw_wheel : Df P w K mg base 3 "_law_wheel" ["well", "size"] (spSome 20)) (Dlaw_any_walk : Df P w K mg base 3 "_law_any_walk" ["well", "size"] (spSome 56)) :
    FnOk P w K mg base CX0 6 f fd ["well", "size"] (spSome 56) := by
  refine F.ok c_law_going (fun vs H Q E h => ?_) (fun cdv A outer s H vs Q E hr h => ?_)
  · obtain ⟨w, l, n, rfl, _⟩ := h
    rfl
  · obtain ⟨w, l, n, rfl, n1, n6, hW, q⟩ := h
    refine ⟨_, (pss_cons (ps_set (i := 2) c_law_going.nd rfl (.inl rfl) (pe_call Dlaw_draw.G (hr.mono (by first | decide | omega)) rfl Dlaw_draw.g Dlaw_draw.kp Dlaw_draw.b .nil pass0 (pa_cons (pv 0) (pa_cons pe_int pa_nil))))
 (pss_cons (ps_if (pt_cmpR op_lt (pv 2) pe_int (nomark _))
 (pss_one (ps_ret (pe_call Dlaw_walk_of.G (hr.mono (by first | decide | omega)) rfl Dlaw_walk_of.g Dlaw_walk_of.kp Dlaw_walk_of.b .nil pass0 (pa_cons (pe_call Dlaw_bars.G (hr.mono (by first | decide | omega)) rfl Dlaw_bars.g Dlaw_bars.kp Dlaw_bars.b .nil pass0 (pa_cons (pv 0) (pa_cons (pv 1) (pa_cons pe_int pa_nil)))) pa_nil))))
 pss_nil)
 (pss_one (ps_ret (pe_ifExp (pt_cmpR op_eq (pv 2) pe_int (nomark _)) (pe_call Dlaw_wheel.G (hr.mono (by first | decide | omega)) rfl Dlaw_wheel.g Dlaw_wheel.kp Dlaw_wheel.b .nil pass0 (pa_cons (pv 0) (pa_cons (pv 1) pa_nil))) (pe_call Dlaw_any_walk.G (hr.mono (by first | decide | omega)) rfl Dlaw_any_walk.g Dlaw_any_walk.kp Dlaw_any_walk.b .nil pass0 (pa_cons (pv 0) (pa_cons (pv 1) pa_nil)))))))), ?_⟩
    have up : ∀ {H' H'' : Hp} {a b c : Addr}, (a = l ∨ H a = none) → (b = a ∨ H' b = none) → Kp (At w) H H' → WellAt w b H'' → (b = l ∨ H b = none) := fun {H' H'' a b c} ha hb k W => by
      rcases hb with hb | hb
      · rw [hb]
        exact ha
      · exact .inr (kp_free k hb (by
          obtain ⟨_, _, _, _, e, _⟩ := W
          exact e))
    refine ⟨_, rfl, w, l, _, rfl, by omega, by omega, hW, fun H1 d l1 d0 d1 k1 W1 hl1 => ?_⟩
    refine ⟨_, rfl, _, _, rfl, rfl, _, rfl, ite2 (fun c => ?_) (fun c => ?_)⟩
    · refine ⟨_, rfl, _, rfl, w, l1, n, 3, rfl, n1, n6, by omega, W1, fun H2 l2 v R k2 W2 hl2 hd bn => ?_⟩
      refine ⟨At w, v, n, R, rfl, hd, n1, n6, bn, fun v3 H3 s3 d3 => ?_⟩
      have hwn : H2 w ≠ none := by
        obtain ⟨_, _, _, e, _⟩ := W2
        rw [e]
        exact fun z => nomatch z
      exact q H3 l2 v3 _ ((k1.trans k2).trans (Kp.same s3)) (well_sameS W2 s3) (up (c := w) hl1 hl2 k1 W2) (d3.weak fun b z => by
        rw [show b = w from z]
        exact hwn) (sc_wk bn n1 n6)
    · refine ⟨_, rfl, rfl, _, rfl, ite2 (fun c => ?_) (fun c => ?_)⟩
      · exact ⟨_, rfl, _, rfl, w, l1, n, rfl, n1, n6, W1, fun H2 l2 v M k2 W2 hl2 hd wk => q H2 l2 v M (k1.trans k2) W2 (up (c := w) hl1 hl2 k1 W2) hd (wkb_weak wk (by decide) (by decide))⟩
      · exact ⟨_, rfl, _, rfl, w, l1, n, rfl, n1, n6, W1, fun H2 l2 v M k2 W2 hl2 hd wk => q H2 l2 v M (k1.trans k2) W2 (up (c := w) hl1 hl2 k1 W2) hd wk⟩
end
end Kx
set_option exponentiation.threshold 4000
/-! A drawn view: a walk and its marks (second family of drawings). -/
namespace Kx
open PySem PySem.Spec PyProof.Rows L2 Bw
abbrev s_law_view : Stmt := topS 46
abbrev n_law_view : List Str := ["well", "size", "most", "going", "top", "marks"]
theorem c_law_view : FnScope n_law_view ["well", "size", "most"] (defScope s_law_view) :=
  ⟨rfl, rfl, rfl, by decide +kernel, rfl, by decide +kernel, by decide +kernel⟩

def natsD (w : List Nat) : PyData := .tuple (w.map fun x : Nat => .int (x : Nat))
theorem nats_dq2 {W : Addr → Prop} {H : Hp} : ∀ w : List Nat, DqAll W H (nats w) (w.map fun x : Nat => PyData.int (x : Nat))
  | [] => .nil
  | x :: w => .cons (.int x) (nats_dq2 w)
section
variable {P : Program} {w : World} {K : PySem.W.Frag} {mg : Str → Option Value} {base : Heap}
def spViewR : Sp := fun vs H Q _ => ∃ (w l : Addr) (n m : Nat), vs = [.ref w, .int (n : Nat), .int (m : Nat)] ∧ 1 ≤ n ∧ n ≤ 6 ∧ 1 ≤ m ∧ m ≤ 100 ∧ WellAt w l H ∧
  ∀ (H' : Hp) (l' : Addr) (v : V) (M : List (List Nat)) (g : List Nat) (t : Nat), Kp (At w) H H' → WellAt w l' H' → (l' = l ∨ H l' = none) → Dq (At w) H' v (.tuple [tabD (walkM M), natsD g]) → WkB 56 n M → g.length = n → t ≤ n → t ≤ m → (∀ x ∈ g, x < t) → (∀ k, k < t → k ∈ g) → Q v H'
theorem ok_lview {f : Addr} {fd : FuncData} (F : Fun K "_law_view" "_law_view" s_law_view f fd) (M : Mb mg) (Dlaw_draw : Df P w K mg base 1 "_law_draw" ["well", "limit"] spPickL) (Dlaw_going : Df P w K mg base 6 "_law_going" ["well", "size"] (spSome 56)) (Dlaw_marks : Df P w K mg base 3 "_law_marks" ["well", "size", "top"] spMarks) :
    FnOk P w K mg base CX0 7 f fd ["well", "size", "most"] spViewR := by
  refine F.ok c_law_view (fun vs H Q E h => ?_) (fun cdv A outer s H vs Q E hr h => ?_)
  · obtain ⟨w, l, n, m, rfl, _⟩ := h
    rfl
  · obtain ⟨w, l, n, m, rfl, n1, n6, m1, m2, hW, q⟩ := h
    refine ⟨_, (pss_cons (ps_par (i := 3) (j := 4) (by rfl) c_law_view.nd rfl rfl (by decide) rfl rfl (pa_cons (pe_call Dlaw_going.G (hr.mono (by first | decide | omega)) rfl Dlaw_going.g Dlaw_going.kp Dlaw_going.b .nil pass0 (pa_cons (pv 0) (pa_cons (pv 1) pa_nil))) (pa_cons (pe_callB (call_min2 rfl) (by rfl) M.min (by decide +kernel) (pa_cons (pv 1) (pa_cons (pv 2) pa_nil))) pa_nil)) (by rfl))
 (pss_cons (ps_set (i := 5) c_law_view.nd rfl (.inl rfl) (pe_ifExp (pt_cmpR op_eq (pe_call Dlaw_draw.G (hr.mono (by first | decide | omega)) rfl Dlaw_draw.g Dlaw_draw.kp Dlaw_draw.b .nil pass0 (pa_cons (pv 0) (pa_cons pe_int pa_nil))) pe_int (nomark _)) (pe_op op_add pe_int (pe_call Dlaw_draw.G (hr.mono (by first | decide | omega)) rfl Dlaw_draw.g Dlaw_draw.kp Dlaw_draw.b .nil pass0 (pa_cons (pv 0) (pa_cons (pv 4) pa_nil)))) (pe_callB (call_min2 rfl) (by rfl) M.min (by decide +kernel) (pa_cons (pv 4) (pa_cons (pe_op op_add pe_int (pe_call Dlaw_draw.G (hr.mono (by first | decide | omega)) rfl Dlaw_draw.g Dlaw_draw.kp Dlaw_draw.b .nil pass0 (pa_cons (pv 0) (pa_cons pe_int pa_nil)))) pa_nil)))))
 (pss_one (ps_ret (pe_tup (pa_cons (pv 3) (pa_cons (pe_call Dlaw_marks.G (hr.mono (by first | decide | omega)) rfl Dlaw_marks.g Dlaw_marks.kp Dlaw_marks.b .nil pass0 (pa_cons (pv 0) (pa_cons (pv 1) (pa_cons (pv 5) pa_nil)))) pa_nil))))))), ?_⟩
    have up : ∀ {H' H'' : Hp} {a b c : Addr}, (a = l ∨ H a = none) → (b = a ∨ H' b = none) → Kp (At w) H H' → WellAt w b H'' → (b = l ∨ H b = none) := fun {H' H'' a b c} ha hb k W => by
      rcases hb with hb | hb
      · rw [hb]
        exact ha
      · exact .inr (kp_free k hb (by
          obtain ⟨_, _, _, _, e, _⟩ := W
          exact e))
    refine ⟨_, rfl, _, rfl, w, l, n, rfl, n1, n6, hW, fun H1 l1 v M k1 W1 hl1 hd wk => ?_⟩
    obtain ⟨T, eT, T1, Tn, Tm⟩ : ∃ T : Nat, (if ((m : Nat) : Int) < ((n : Nat) : Int) then ((m : Nat) : Int) else ((n : Nat) : Int)) = ((T : Nat) : Int) ∧ 1 ≤ T ∧ T ≤ n ∧ T ≤ m := by
      by_cases c : m < n
      · exact ⟨m, by rw [if_pos (by omega)], m1, by omega, by omega⟩
      · exact ⟨n, by rw [if_neg (by omega)], n1, by omega, by omega⟩
    refine ⟨_, rfl, _, rfl, _, _, rfl, ?_⟩
    rw [eT]
    refine ⟨_, _, rfl, ?_⟩
    refine ⟨_, rfl, w, l1, _, rfl, by omega, by omega, W1, fun H2 d l2 d0 d1 k2 W2 hl2 => ?_⟩
    have q2 := up (c := w) hl1 hl2 k1 W2
    refine ⟨rfl, _, rfl, ite2 (fun c => ?_) (fun c => ?_)⟩
    · refine ⟨_, rfl, _, rfl, w, l2, _, rfl, by omega, by omega, W2, fun H3 e l3 e0 e1 k3 W3 hl3 => ?_⟩
      have q3 := up (c := w) q2 hl3 (k1.trans k2) W3
      refine ⟨_, _, rfl, rfl, ?_⟩
      obtain ⟨t, et, t1, tT⟩ : ∃ t : Nat, (1 : Int) + e = ((t : Nat) : Int) ∧ 1 ≤ t ∧ t ≤ T := ⟨(1 + e).toNat, by omega, by omega, by omega⟩
      dsimp only
      rw [et]
      refine ⟨_, rfl, _, rfl, _, rfl, _, rfl, w, l3, n, t, rfl, t1, by omega, by omega, W3, fun H4 l4 p g k4 W4 hl4 pw ep gl gt ga => ?_⟩
      refine ⟨sz63 (by show 2 ≤ 1000; decide), fun a nt => ?_⟩
      have k14 := (k2.trans k3).trans k4
      refine q _ l4 _ M g t ((k1.trans k14).trans (Kp.new nt)) (W4.new nt) (up (c := w) q3 hl4 ((k1.trans k2).trans k3) W4) (.tup (W4.ne nt).1 upd_same (.cons (hd.keep (k14.trans (Kp.new nt))) (.cons (.tup pw (same_new nt _ _ ep) (nats_dq2 g)) .nil))) wk gl (by omega) (by omega) gt ga
    · refine ⟨_, rfl, _, rfl, w, l2, _, rfl, by omega, by omega, W2, fun H3 e l3 e0 e1 k3 W3 hl3 => ?_⟩
      have q3 := up (c := w) q2 hl3 (k1.trans k2) W3
      refine ⟨_, _, rfl, rfl, _, _, rfl, ?_⟩
      obtain ⟨t, et, t1, tT⟩ : ∃ t : Nat, (if (2 : Int) + e < ((T : Nat) : Int) then (2 : Int) + e else ((T : Nat) : Int)) = ((t : Nat) : Int) ∧ 1 ≤ t ∧ t ≤ T := by
        by_cases c : (2 : Int) + e < ((T : Nat) : Int)
        · exact ⟨(2 + e).toNat, by rw [if_pos c]; omega, by omega, by omega⟩
        · exact ⟨T, by rw [if_neg c], by omega, by omega⟩
      dsimp only
      rw [et]
      refine ⟨_, rfl, _, rfl, _, rfl, _, rfl, w, l3, n, t, rfl, t1, by omega, by omega, W3, fun H4 l4 p g k4 W4 hl4 pw ep gl gt ga => ?_⟩
      refine ⟨sz63 (by show 2 ≤ 1000; decide), fun a nt => ?_⟩
      have k14 := (k2.trans k3).trans k4
      refine q _ l4 _ M g t ((k1.trans k14).trans (Kp.new nt)) (W4.new nt) (up (c := w) q3 hl4 ((k1.trans k2).trans k3) W4) (.tup (W4.ne nt).1 upd_same (.cons (hd.keep (k14.trans (Kp.new nt))) (.cons (.tup pw (same_new nt _ _ ep) (nats_dq2 g)) .nil))) wk gl (by omega) (by omega) gt ga
end
end Kx
/-! Part 13. The least of a tuple of numbers; how many unlike numbers are in it. -/
namespace Bw
open PySem PySem.Spec PyProof.Rows L2
section
variable {X : Cx}
def rMinT (K : PySem.W.Frag) : List V → Hp → VK → Prop := fun vs H Q => ∃ (a : Addr) (ns : List Int), vs = [V.ref a] ∧ SqT K H a (ns.map V.int) ∧ 0 < ns.length ∧ ∀ m, m ∈ ns → (∀ y, y ∈ ns → m ≤ y) → Q (.int m) H
theorem cr_minT (hc : X.calm = true) : CallR X (.builtin "min") (rMinT X.K) := by
  intro pins s σ H vs us Q I r h
  obtain ⟨a, ns, rfl, hs, hne, q⟩ := h
  obtain ⟨its, rv, hl, _⟩ := I.tuple hs
  rw [Vals.ref1 r]
  have hi := rv.ints
  obtain ⟨xs, e⟩ := hi.allInts.items
  have hn : numsOf (intItems xs).toList = ns := by rw [← e]; exact hi.numsOf
  rw [nums_intItems] at hn
  subst hn
  have hlt : s.heap.IsTuple a (intItems xs) := by
    rw [← e]
    exact hl
  have hsz : 0 < xs.size := by simpa using hne
  have ha : a < s.heap.objs.size := by
    obtain ⟨o, ho, _⟩ := hlt
    exact Heap.lt_size ho
  refine PySem.call_min_walk (wpAny_pyIter_tuple hlt ?_)
  refine ⟨_, [_, a], [_], _, _, _, _, rfl, Walks.tuple (A := X.A.in1) (I.ok.hd hc) _ a (Nat.ne_of_lt ha) (intItems xs), ⟨⟨_, Heap.get?_push_size _ rfl, rfl, rfl⟩, hlt.push _⟩, fun c hc => ?_, by simpa [intItems] using hsz, CmpOf.ints_lt (numAt xs) (fun _ _ => intItems_at), fun v h' tk hP hk => ?_⟩
  · show c < (s.heap.push _).objs.size
    rw [Heap.size_push]
    rcases List.mem_cons.mp hc with rfl | hc
    · exact Nat.lt_succ_self _
    · rcases List.mem_cons.mp hc with rfl | hc
      · exact Nat.lt_succ_of_lt ha
      · cases hc
  · have hold : ∀ c o, s.heap.get? c = some o → h'.get? c = some o := fun c o e => by
      refine hk c o (fun hm => ?_) (Heap.get?_push_of_some _ e)
      rcases List.mem_cons.mp hm with e1 | hm
      · have := Heap.lt_size e
        rw [e1] at this
        exact Nat.lt_irrefl _ this
      · cases hm
    have hv : (intItems xs)[argBest (fun i j => decide (numAt xs i < numAt xs j)) (xs.size - 1)]? = some v := by simpa [intItems] using hP
    obtain ⟨t, rfl⟩ := intItems_at hv
    obtain ⟨h1, h2⟩ := argBest_lt (numAt xs) (xs.size - 1)
    refine ⟨.int _, H, I.kept hold, ⟨_, rfl⟩, q _ ?_ fun y hy => ?_⟩
    · rw [numAt_eq]; exact PySem.getD_mem (by rw [List.length_map, Array.length_toList]; omega)
    · obtain ⟨j, hj, rfl⟩ := mem_getD hy
      rw [List.length_map, Array.length_toList] at hj
      rw [← numAt_eq]; exact h2 j (by omega)
def tLenSetT (K : PySem.W.Frag) (ta : TE) : TE := fun σ H Q => ta σ H fun x H1 => ∃ (l : Addr) (ns : List Int), x = .ref l ∧ SqT K H1 l (ns.map V.int) ∧ ns.length ≤ 1000 ∧ ∀ out : List Int, out.Nodup → (∀ k, k ∈ out ↔ k ∈ ns) → Q (.int (out.length : Nat)) H1
theorem pe_lenSetT {a : Expr} {ta : TE} {p p2 q pos : PySem.Pos} (hg : Gl X "len") (hm : X.mg "len" = none) (hg2 : Gl X "set") (hm2 : X.mg "set" = none) (ha : PE X a ta) (hc : X.calm = true := by rfl)
    (na : starEach [a] X.env = (false, eval a X.env) :: starEach [] X.env := by rfl) : PE X (.Call (.Name "len" p) [.Call (.Name "set" p2) [a] [] q] [] pos) (tLenSetT X.K ta) := by
  refine ⟨fun pins s σ H Q I h => ?_⟩
  refine Call_ (ld_blt I hg hm boot_len ?_)
  refine PyProof.Rows.callWith_builtin1 (PyProof.Rows.args_cons ?_ rfl) rfl rfl
  refine Call_ (ld_blt I hg2 hm2 boot_set ?_)
  refine PyProof.Rows.callWith_type1 (PyProof.Rows.args_cons (thn (ha.run pins s σ H _ I h) fun v s1 ⟨x, H1, I1, r1, q1⟩ => PyProof.Rows.args_nil ?_) na) na rfl
  obtain ⟨l, ns, rfl, hq, hl, q1⟩ := q1
  cases r1
  obtain ⟨its, rv, pt, hz⟩ := I1.tuple hq
  have hi : IntsAre its.toArray.toList ns := ints_of_vals rv
  refine call_set_tupI ns (I1.ok.hd hc) (show s1.heap.IsTuple l its.toArray from pt) hi (by unfold scanBound; omega) fun h' tk c R1 hcn hk => ?_
  obtain ⟨o, es, ep, t, ho, hex, hd, g, nd, hm2, hb, hf, hn, _, _⟩ := R1
  refine PyProof.Rows.args_nil ?_
  have I2 : Inv X pins σ H1 { s1 with heap := h', toks := tk } := I1.kept hk
  refine call_len_set ho hex hd hf (by unfold scanBound at hb; omega) ⟨.int es.size, H1, I2.tok _, ⟨_, rfl⟩, ?_⟩
  have h3 := q1 (es.toList.map keyOf) nd fun k => by rw [← hm2 k, decide_eq_true_eq]
  rw [List.length_map, Array.length_toList] at h3
  exact h3
end
end Bw
/-! The greatest of a tuple of numbers. -/
namespace Bw
open PySem PySem.Spec PyProof.Rows L2
section
variable {X : Cx}
def rMaxT (K : PySem.W.Frag) : List V → Hp → VK → Prop := fun vs H Q => ∃ (a : Addr) (ns : List Int), vs = [V.ref a] ∧ SqT K H a (ns.map V.int) ∧ 0 < ns.length ∧ ∀ m, m ∈ ns → (∀ y, y ∈ ns → y ≤ m) → Q (.int m) H
theorem cr_maxT (hc : X.calm = true) : CallR X (.builtin "max") (rMaxT X.K) := by
  intro pins s σ H vs us Q I r h
  obtain ⟨a, ns, rfl, hs, hne, q⟩ := h
  obtain ⟨its, rv, hl, _⟩ := I.tuple hs
  rw [Vals.ref1 r]
  have hi := rv.ints
  obtain ⟨xs, e⟩ := hi.allInts.items
  have hn : numsOf (intItems xs).toList = ns := by rw [← e]; exact hi.numsOf
  rw [nums_intItems] at hn
  subst hn
  have hlt : s.heap.IsTuple a (intItems xs) := by
    rw [← e]
    exact hl
  have hsz : 0 < xs.size := by simpa using hne
  have ha : a < s.heap.objs.size := by
    obtain ⟨o, ho, _⟩ := hlt
    exact Heap.lt_size ho
  refine PySem.call_max_walk (wpAny_pyIter_tuple hlt ?_)
  refine ⟨_, [_, a], [_], _, _, _, _, rfl, Walks.tuple (A := X.A.in1) (I.ok.hd hc) _ a (Nat.ne_of_lt ha) (intItems xs), ⟨⟨_, Heap.get?_push_size _ rfl, rfl, rfl⟩, hlt.push _⟩, fun c hc => ?_, by simpa [intItems] using hsz, CmpOf.ints_gt (numAt xs) (fun _ _ => intItems_at), fun v h' tk hP hk => ?_⟩
  · show c < (s.heap.push _).objs.size
    rw [Heap.size_push]
    rcases List.mem_cons.mp hc with rfl | hc
    · exact Nat.lt_succ_self _
    · rcases List.mem_cons.mp hc with rfl | hc
      · exact Nat.lt_succ_of_lt ha
      · cases hc
  · have hold : ∀ c o, s.heap.get? c = some o → h'.get? c = some o := fun c o e => by
      refine hk c o (fun hm => ?_) (Heap.get?_push_of_some _ e)
      rcases List.mem_cons.mp hm with e1 | hm
      · have := Heap.lt_size e
        rw [e1] at this
        exact Nat.lt_irrefl _ this
      · cases hm
    have hv : (intItems xs)[argBest (fun i j => decide (numAt xs i > numAt xs j)) (xs.size - 1)]? = some v := by simpa [intItems] using hP
    obtain ⟨t, rfl⟩ := intItems_at hv
    obtain ⟨h1, h2⟩ := argBest_gt (numAt xs) (xs.size - 1)
    refine ⟨.int _, H, I.kept hold, ⟨_, rfl⟩, q _ ?_ fun y hy => ?_⟩
    · rw [numAt_eq]; exact PySem.getD_mem (by rw [List.length_map, Array.length_toList]; omega)
    · obtain ⟨j, hj, rfl⟩ := mem_getD hy
      rw [List.length_map, Array.length_toList] at hj
      rw [← numAt_eq]; exact h2 j (by omega)
end
end Bw
/-! How many unlike ones there are among tuples of numbers. -/
namespace Bw
open PySem PySem.Spec PyProof.Rows L2
section
variable {X : Cx}
def tLenSetP (K : PySem.W.Frag) (ta : TE) : TE := fun σ H Q => ta σ H fun x H1 => ∃ (l : Addr) (ks : List (Addr × List Int)), x = .ref l ∧ SqL K H1 l (ks.map fun p => V.ref p.1) ∧ (∀ p ∈ ks, SqT K H1 p.1 (p.2.map V.int)) ∧ ks.length < 64 ∧
  ∀ out : List (List Int), out.Nodup → (∀ k, k ∈ out ↔ k ∈ ks.map fun p => p.2) → Q (.int (out.length : Nat)) H1
theorem pe_lenSetP {a : Expr} {ta : TE} {p p2 q pos : PySem.Pos} (hu : X.A.units + 64 < cLine) (hg : Gl X "len") (hm : X.mg "len" = none) (hg2 : Gl X "set") (hm2 : X.mg "set" = none) (ha : PE X a ta) (hc : X.calm = true := by rfl)
    (na : starEach [a] X.env = (false, eval a X.env) :: starEach [] X.env := by rfl) : PE X (.Call (.Name "len" p) [.Call (.Name "set" p2) [a] [] q] [] pos) (tLenSetP X.K ta) := by
  refine ⟨fun pins s σ H Q I h => ?_⟩
  refine Call_ (ld_blt I hg hm boot_len ?_)
  refine PyProof.Rows.callWith_builtin1 (PyProof.Rows.args_cons ?_ rfl) rfl rfl
  refine Call_ (ld_blt I hg2 hm2 boot_set ?_)
  refine PyProof.Rows.callWith_type1 (PyProof.Rows.args_cons (thn (ha.run pins s σ H _ I h) fun v s1 ⟨x, H1, I1, r1, q1⟩ => PyProof.Rows.args_nil ?_) na) na rfl
  obtain ⟨l, ks, rfl, hq, hk, hl, q1⟩ := q1
  cases r1
  obtain ⟨its, rv, pt, hz⟩ := I1.list hq
  refine call_set_tups (P := X.prog) (w := X.w) ks (I1.ok.hd hc) pt.isList (by simpa using refs_of_vals rv) (fun p hp => I1.isT (hk p hp)) hl (by omega) fun h' tk L es ep t R g kk => ?_
  refine PyProof.Rows.args_nil ?_
  have I2 : Inv X pins σ H1 { s1 with heap := h', toks := tk } := I1.kept kk
  obtain ⟨o, ho, hex, hd⟩ := R.ob
  have hsz := R.size (s := { s1 with heap := h', toks := tk })
  have hfew := R.few
  refine call_len_set ho hex hd (R.fits (s := { s1 with heap := h', toks := tk })) (by omega) ⟨.int es.size, H1, I2.tok _, ⟨_, rfl⟩, ?_⟩
  have h3 := q1 (L.map fun p => p.2) R.nd fun k => by
    constructor
    · intro m
      obtain ⟨p, hp, rfl⟩ := List.mem_map.mp m
      exact List.mem_map.mpr ⟨p, List.mem_of_mem_take (g.sub p hp), rfl⟩
    · intro m
      obtain ⟨p, hp, rfl⟩ := List.mem_map.mp m
      exact g.all p (by rw [List.take_length]; exact hp)
  rw [List.length_map, ← hsz] at h3
  exact h3
end
end Bw
/-! tuple(zip(*rows)) of a row of tuples. -/
namespace Bt
open PySem PySem.Spec PyProof.Rows L2 Bz
open PySem.Sem (wp)
section
variable {prog : Program} {w : World} {A : Around} {E : Value → Shared → Prop} {s : Shared}
/-- the rows, those before j one item further -/
def ItsT (h : Heap) (rs : List Rw) (k j : Nat) : Prop := ∀ m r, rs[m]? = some r → h.IsTupleIter r.it r.l (if m < j then k + 1 else k) ∧ h.IsTuple r.l r.xs

theorem ItsT.but {h h1 : Heap} {rs : List Rw} {k j : Nat} {a : Addr} (s : Heap.SameBut a h h1) (n1 : ∀ r ∈ rs, r.it ≠ a) (n2 : ∀ r ∈ rs, r.l ≠ a) (i : ItsT h rs k j) : ItsT h1 rs k j := fun m r e =>
  have hm := List.mem_of_getElem? e
  ⟨(i m r e).1.extBut s.extBut (n1 r hm), (i m r e).2.extBut s.extBut (n2 r hm)⟩
theorem ItsT.next {z TI TO : Addr} {rs : List Rw} (D : Apart z TI TO rs) {h h1 : Heap} {k j : Nat} {r : Rw} (e : rs[j]? = some r) (i : ItsT h rs k j) (n : h1.IsTupleIter r.it r.l (k + 1)) (s : Heap.SameBut r.it h h1) : ItsT h1 rs k (j + 1) := fun m q eq => by
  have hm := List.mem_of_getElem? eq
  have hr := List.mem_of_getElem? e
  refine ⟨?_, (i m q eq).2.extBut s.extBut (D.ll q hm r hr)⟩
  by_cases c : m = j
  · subst c
    rw [e] at eq
    cases eq
    rw [if_pos (Nat.lt_succ_self _)]
    exact n
  · have := (i m q eq).1.extBut s.extBut (D.nd m j q r eq e c)
    by_cases l : m < j
    · rw [if_pos l] at this
      rw [if_pos (by omega)]
      exact this
    · rw [if_neg l] at this
      rw [if_neg (by omega)]
      exact this
theorem ItsT.done {h : Heap} {rs : List Rw} {k : Nat} (i : ItsT h rs k rs.length) : ItsT h rs (k + 1) 0 := fun m r e => by
  have l := (List.getElem?_eq_some_iff.mp e).1
  have := i m r e
  rw [if_pos l] at this
  rw [if_neg (by omega)]
  exact this

theorem next_item {z TI TO : Addr} {rs : List Rw} {k : Nat} {f0 : Value} {f : Bool} {to : Array Value} {vs : List Value} {Q : Value → Shared → Prop} (D : Apart z TI TO rs) (hn : 0 < rs.length) (hl : rs.length ≤ 1000) (hf : Fld0 f0)
    (hz : ZipO s.heap z TI TO f0 f) (hTI : TupO s.heap TI (rs.map fun r => Value.ref r.it).toArray) (hTO : TupO s.heap TO to) (hto : to.size = rs.length) (hi : ItsT s.heap rs k 0) (hv : Vs rs k vs)
    (hQ : ∀ h' f0' f' to', Fld0 f0' → ZipO h' z TI TO f0' f' → TupO h' TI (rs.map fun r => Value.ref r.it).toArray → TupO h' TO to' → to'.size = rs.length → ItsT h' rs (k + 1) 0 → TupO h' s.heap.objs.size vs.toArray →
      h'.objs.size = s.heap.objs.size + 1 → (∀ c o, c ≠ z → c ≠ TO → (∀ r ∈ rs, c ≠ r.it) → s.heap.get? c = some o → h'.get? c = some o) → Q (.ref s.heap.objs.size) { s with heap := h' }) :
    wpAny (model prog w) A (Builtin.«zip.__next__» ⟨[.ref z], []⟩) (fun fin s' => ∃ v, fin = .done (.ret v) ∧ Q v s') E s := by
  show wpAny _ _ (field (.ref z) 2 >>= _) _ _ _
  refine wpAny_bind (wpAny_field hz rfl (x := .bool false) rfl ?_)
  show wpAny _ _ (field (.ref z) 3 >>= _) _ _ _
  refine wpAny_bind (wpAny_field hz rfl (x := .ref TI) rfl ?_)
  refine wpAny_bind (wpAny_seqItems hTI rfl ?_)
  have ne : (rs.map fun r => Value.ref r.it).toArray.isEmpty = false := by
    cases rs with
    | nil => simp at hn
    | cons r t => rfl
  dsimp only
  rw [ne]
  show wpAny _ _ (Builtin.SmallTypes.ownedTupleIsFree (.ref z) >>= _) _ _ _
  have TIk : ∀ {h h' : Heap}, Kept z TO rs h h' → TupO h TI (rs.map fun r => Value.ref r.it).toArray → TupO h' TI (rs.map fun r => Value.ref r.it).toArray := fun kp e =>
    kp.2 _ _ D.TIz D.TITO (fun r hr => (D.itz r hr).2.1.symm) e
  refine wpAny_bind (owned hf hz fun h1 b f1 hz1 sb1 => ?_)
  have i1 : ItsT h1 rs k 0 := hi.but sb1 (fun r hr => (D.itz r hr).1) fun r hr => (D.lz r hr).1
  have TO1 : TupO h1 TO to := sb1.extBut _ _ D.TOz hTO
  have K1 : Kept z TO rs s.heap h1 := .z sb1
  have hvl := hv.1
  cases b with
  | true =>
    simp only [if_true]
    refine wpAny_bind (wpAny_rule ?_)
    refine wpAny_bind (wpAny_field (s := { s with heap := h1 }) hz1 rfl (x := .ref TO) rfl ?_)
    refine wpAny_bind (wpAny_setField_rec (s := { s with heap := h1 }) hz1 (by simp) fun h2 hz2 sb2 => ?_)
    replace hz2 : ZipO h2 z TI TO .ellipsis f1 := hz2
    have i2 : ItsT h2 rs k 0 := i1.but sb2 (fun r hr => (D.itz r hr).1) fun r hr => (D.lz r hr).1
    have K2 : Kept z TO rs s.heap h2 := K1.trans (.z sb2)
    have TO2 : TupO h2 TO to := sb2.extBut _ _ D.TOz TO1
    refine wpAny_bind (forIn_by (fun j b s' => b = (none, ()) ∧ ∃ h' to', s' = { s with heap := h' } ∧ ZipO h' z TI TO .ellipsis f1 ∧ ItsT h' rs k j ∧ Kept z TO rs s.heap h' ∧ TupO h' TO to' ∧ to'.size = rs.length ∧ ∀ m, m < j → to'[m]? = vs[m]?) _ 0 _ _
      ⟨rfl, h2, to, rfl, hz2, i2, K2, TO2, hto, fun m q => by omega⟩ ?_ ?_)
    · rintro j ⟨x, kk⟩ b s' hj ⟨rfl, h', to', rfl, hz', i', K', TO', st', pre⟩
      rw [Nat.zero_add] at i' pre ⊢
      rw [List.getElem?_zipIdx] at hj
      obtain ⟨r, hr, rfl, rfl⟩ : ∃ r, rs[j]? = some r ∧ x = Value.ref r.it ∧ kk = j := by
        cases e : (rs.map fun r => Value.ref r.it)[j]? with
        | none =>
          have e' : (List.map (fun r => Value.ref r.it) rs).toArray.toList[j]? = none := e
          rw [e'] at hj
          cases hj
        | some y =>
          have e' : (List.map (fun r => Value.ref r.it) rs).toArray.toList[j]? = some y := e
          rw [e'] at hj
          obtain ⟨r, hr, rfl⟩ := map_get e
          have q := Option.some.inj hj
          have q1 := congrArg Prod.fst q
          have q2 := congrArg Prod.snd q
          exact ⟨r, hr, q1.symm, by have : 0 + j = kk := q2; omega⟩
      have hm := List.mem_of_getElem? hr
      obtain ⟨v, hv1, hv2⟩ := hv.2 kk r hr
      obtain ⟨it1, il⟩ := i' kk r hr
      rw [if_neg (Nat.lt_irrefl _)] at it1
      refine wpAny_bind (wpAny_onRaise ?_)
      show wpAny _ _ (Builtin.SmallTypes.nextOf (.ref r.it) >>= _) _ _ _
      refine wpAny_bind (RZ.nextOf_tuple_item (s := { s with heap := h' }) it1 il hv2 fun h3 it3 sb3 => wpAny_pure ?_)
      have TO3 : TupO h3 TO to' := sb3.extBut _ _ (D.itz r hm).2.2.symm TO'
      have hkl := (List.getElem?_eq_some_iff.mp hr).1
      refine wpAny_bind (wpAny_seqItems (s := { s with heap := h3 }) TO3 rfl ?_)
      refine wpAny_bind (wpAny_updateSeq (s := { s with heap := h3 }) TO3 rfl (wpAny_bind (wpAny_letGo (wpAny_pure ⟨_, rfl, rfl, ?_⟩))) (Nat.le_trans (Nat.le_of_eq st') (Bw.sz63 hl)) ?_)
      · have sb4 : Heap.SameBut TO h3 (h3.update TO (Obj.mapSeq fun x => x.setIfInBounds kk v)) := Heap.SameBut.update ..
        refine ⟨_, to'.setIfInBounds kk v, rfl, sb4.extBut _ _ D.TOz.symm (sb3.extBut _ _ (D.itz r hm).1.symm hz'), (i'.next D hr it3 sb3).but sb4 (fun r hr => (D.itz r hr).2.2) (fun r hr => (D.lz r hr).2), (K'.trans (.it hm sb3)).trans (.TO sb4), ?_, ?_, fun m hm2 => ?_⟩
        · show Heap.get? _ _ = _
          rw [Heap.get?_update_self _ TO3 rfl]
          simp [Obj.mapSeq]
        · rw [Array.size_setIfInBounds]
          exact st'
        · by_cases c : kk = m
          · subst c
            rw [Array.getElem?_setIfInBounds_self_of_lt (by omega), hv1]
          · rw [Array.getElem?_setIfInBounds_ne c]
            exact pre m (by omega)
      · rw [Array.size_setIfInBounds, st']
        have := Bw.sz63 hl
        omega
    · rintro b s' ⟨rfl, h', to', rfl, hz', i', K', TO', st', pre⟩
      have hlen : 0 + (List.map (fun r => Value.ref r.it) rs).toArray.toList.zipIdx.length = rs.length := by simp
      rw [hlen] at i' pre
      have tov : to' = vs.toArray := by
        apply Array.ext_getElem?
        intro m
        by_cases c : m < rs.length
        · rw [pre m c]
          simp
        · rw [Array.getElem?_eq_none (by omega), Array.getElem?_eq_none (by simp; omega)]
      subst tov
      refine wpAny_bind (wpAny_seqItems (s := { s with heap := h' }) TO' rfl ?_)
      refine wpAny_bind (wpAny_newTuple ?_ (by have := Bw.sz63 hl; simpa [hvl] using this))
      have hsz : h'.objs.size = s.heap.objs.size := K'.1
      show wpAny _ _ (Builtin.SmallTypes.ownedTupleHandOut (.ref z) (.ref h'.objs.size) >>= _) _ _ _
      refine wpAny_bind ?_
      unfold Builtin.SmallTypes.ownedTupleHandOut
      have up6 : ∀ c o, h'.get? c = some o → (h'.push { cls := .type "tuple", data := .seq vs.toArray }).get? c = some o := fun c o e => Heap.get?_push_of_some _ e
      have hz6 : ZipO (h'.push { cls := .type "tuple", data := .seq vs.toArray }) z TI TO .ellipsis f1 := up6 _ _ hz'
      refine wpAny_bind (wpAny_setField_rec (s := { s with heap := _ }) hz6 (by simp) fun h7 hz7 sb7 => ?_)
      replace hz7 : ZipO h7 z TI TO (rawInt h'.objs.size) f1 := hz7
      refine wpAny_setField_rec (s := { s with heap := h7 }) hz7 (by simp) fun h8 hz8 sb8 => ?_
      replace hz8 : ZipO h8 z TI TO (rawInt h'.objs.size) false := hz8
      have up : ∀ c o, c ≠ z → h'.get? c = some o → h8.get? c = some o := fun c o c1 e => sb8.extBut _ _ c1 (sb7.extBut _ _ c1 (up6 c o e))
      have hzl : z < h'.objs.size := Heap.lt_size hz'
      have T8 : TupO h8 h'.objs.size vs.toArray := sb8.extBut _ _ (Nat.ne_of_gt hzl) (sb7.extBut _ _ (Nat.ne_of_gt hzl) (Heap.get?_push_size _ rfl))
      have s8 : h8.objs.size = h'.objs.size + 1 := by rw [sb8.1, sb7.1, Heap.size_push]
      have i8 : ItsT h8 rs (k + 1) 0 := fun m r e =>
        ⟨(i'.done m r e).1.at fun o q => up _ o (D.itz r (List.mem_of_getElem? e)).1 q, (i'.done m r e).2.at fun o q => up _ o (D.lz r (List.mem_of_getElem? e)).1 q⟩
      rw [hsz] at hz8 T8 s8
      refine wpAny_pure ⟨_, rfl, ?_⟩
      show Q (.ref h'.objs.size) _
      rw [hsz]
      exact hQ h8 _ _ _ (.inr ⟨_, rfl⟩) hz8 (up _ _ D.TIz (TIk K' hTI)) (up _ _ D.TOz TO') st' i8 T8 s8 fun c o c1 c2 c3 e => up c o c1 (K'.2 c o c1 c2 c3 e)
  | false =>
    simp only [Bool.false_eq_true, if_false]
    refine wpAny_bind ?_
    rw [← Array.forIn_toList]
    refine forIn_by (fun j b s' => b = (none, (vs.take j).toArray) ∧ ∃ h', s' = { s with heap := h' } ∧ ZipO h' z TI TO f0 f1 ∧ ItsT h' rs k j ∧ Kept z TO rs s.heap h' ∧ TupO h' TO to) _ 0 _ _
      ⟨rfl, h1, rfl, hz1, i1, K1, TO1⟩ ?_ ?_
    · rintro j x b s' hj ⟨rfl, h', rfl, hz', i', K', TO'⟩
      rw [Nat.zero_add] at i' ⊢
      obtain ⟨r, hr, rfl⟩ := map_get (show (rs.map fun r => Value.ref r.it)[j]? = some x from hj)
      have hm := List.mem_of_getElem? hr
      obtain ⟨v, hv1, hv2⟩ := hv.2 j r hr
      obtain ⟨it1, il⟩ := i' j r hr
      rw [if_neg (Nat.lt_irrefl _)] at it1
      refine wpAny_bind (wpAny_holding ?_)
      show wpAny _ _ (Builtin.SmallTypes.nextOf (.ref r.it) >>= _) _ _ _
      refine wpAny_bind (RZ.nextOf_tuple_item (s := { s with heap := h' }) it1 il hv2 fun h3 it3 sb3 => wpAny_pure ?_)
      refine wpAny_pure ⟨_, rfl, ?_, h3, rfl, sb3.extBut _ _ (D.itz r hm).1.symm hz', i'.next D hr it3 sb3, K'.trans (.it hm sb3), sb3.extBut _ _ (D.itz r hm).2.2.symm TO'⟩
      rw [List.take_succ, hv1]
      simp
    · rintro b s' ⟨rfl, h', rfl, hz', i', K', TO'⟩
      have hlen : 0 + (List.map (fun r => Value.ref r.it) rs).toArray.toList.length = rs.length := by simp
      rw [hlen] at i' ⊢
      rw [← hvl, List.take_length]
      show wpAny _ _ (newTuple vs >>= _) _ _ _
      refine wpAny_bind (wpAny_newTuple ?_ (by have := Bw.sz63 hl; omega))
      have hsz : h'.objs.size = s.heap.objs.size := K'.1
      have up : ∀ c o, h'.get? c = some o → (h'.push { cls := .type "tuple", data := .seq vs.toArray }).get? c = some o := fun c o e => Heap.get?_push_of_some _ e
      refine wpAny_pure ⟨_, rfl, ?_⟩
      show Q (.ref h'.objs.size) _
      have T8 : TupO (h'.push { cls := .type "tuple", data := .seq vs.toArray }) h'.objs.size vs.toArray := Heap.get?_push_size _ rfl
      have s8 : (h'.push { cls := .type "tuple", data := .seq vs.toArray }).objs.size = h'.objs.size + 1 := Heap.size_push ..
      rw [hsz] at T8 s8 ⊢
      exact hQ _ _ _ _ hf (up _ _ hz') (up _ _ (TIk K' hTI)) (up _ _ TO') hto (fun m r e => ⟨(i'.done m r e).1.at fun o q => up _ o q, (i'.done m r e).2.at fun o q => up _ o q⟩) T8 s8
        fun c o c1 c2 c3 e => up c o (K'.2 c o c1 c2 c3 e)

theorem next_end {z TI TO : Addr} {r : Rw} {t : List Rw} {k : Nat} {f0 : Value} {f : Bool} {to : Array Value} {Q : PySem.Fin → Shared → Prop} (hh : A.handled = none) (D : Apart z TI TO (r :: t)) (hf : Fld0 f0)
    (hz : ZipO s.heap z TI TO f0 f) (hTI : TupO s.heap TI ((r :: t).map fun r => Value.ref r.it).toArray) (hi : ItsT s.heap (r :: t) k 0) (hx : r.xs[k]? = none)
    (hE : ∀ h' e, (∀ c o, c ≠ z → c ≠ TO → (∀ q ∈ r :: t, c ≠ q.it) → s.heap.get? c = some o → h'.get? c = some o) → (∃ o, h'.get? e = some o ∧ o.cls = .type "StopIteration") → E (.ref e) { s with heap := h' }) :
    wpAny (model prog w) A (Builtin.«zip.__next__» ⟨[.ref z], []⟩) Q E s := by
  have hm : r ∈ r :: t := List.mem_cons_self
  show wpAny _ _ (field (.ref z) 2 >>= _) _ _ _
  refine wpAny_bind (wpAny_field hz rfl (x := .bool false) rfl ?_)
  show wpAny _ _ (field (.ref z) 3 >>= _) _ _ _
  refine wpAny_bind (wpAny_field hz rfl (x := .ref TI) rfl ?_)
  refine wpAny_bind (wpAny_seqItems hTI rfl ?_)
  have ne : ((r :: t).map fun r => Value.ref r.it).toArray.isEmpty = false := rfl
  dsimp only
  rw [ne]
  show wpAny _ _ (Builtin.SmallTypes.ownedTupleIsFree (.ref z) >>= _) _ _ _
  refine wpAny_bind (owned hf hz fun h1 b f1 hz1 sb1 => ?_)
  have i1 : ItsT h1 (r :: t) k 0 := hi.but sb1 (fun r hr => (D.itz r hr).1) fun r hr => (D.lz r hr).1
  cases b with
  | true =>
    simp only [if_true]
    refine wpAny_bind (wpAny_rule ?_)
    refine wpAny_bind (wpAny_field (s := { s with heap := h1 }) hz1 rfl (x := .ref TO) rfl ?_)
    refine wpAny_bind (wpAny_setField_rec (s := { s with heap := h1 }) hz1 (by simp) fun h2 hz2 sb2 => ?_)
    replace hz2 : ZipO h2 z TI TO .ellipsis f1 := hz2
    have i2 : ItsT h2 (r :: t) k 0 := i1.but sb2 (fun r hr => (D.itz r hr).1) fun r hr => (D.lz r hr).1
    obtain ⟨it1, il⟩ := i2 0 r rfl
    refine wpAny_bind ?_
    rw [List.map_cons, List.zipIdx_cons, List.forIn_cons]
    refine wpAny_bind (wpAny_bind (wpAny_onRaise ?_))
    show wpAny _ _ (Builtin.SmallTypes.nextOf (.ref r.it) >>= _) _ _ _
    refine wpAny_bind (RZ.nextOf_tuple_end (s := { s with heap := h2 }) hh it1 il hx fun h3 e sb3 he => ?_)
    obtain ⟨oe, hoe, hce⟩ := he
    have hz3 : ZipO h3 z TI TO .ellipsis f1 := sb3 _ _ (D.itz r hm).1.symm hz2
    have hez : e ≠ z := fun x => by subst x; rw [hz3] at hoe; cases hoe; simp at hce
    exact wpAny_setField_rec (s := { s with heap := h3 }) hz3 (by simp) fun h4 _ sb4 => hE h4 e (fun c o c1 c2 c3 x => sb4.extBut _ _ c1 (sb3 _ _ (c3 r hm) (sb2.extBut _ _ c1 (sb1.extBut _ _ c1 x)))) ⟨oe, sb4.extBut _ _ hez hoe, hce⟩
  | false =>
    simp only [Bool.false_eq_true, if_false]
    obtain ⟨it1, il⟩ := i1 0 r rfl
    refine wpAny_bind ?_
    rw [← Array.forIn_toList]
    rw [List.map_cons, List.forIn_cons]
    refine wpAny_bind (wpAny_bind (wpAny_holding ?_))
    show wpAny _ _ (Builtin.SmallTypes.nextOf (.ref r.it) >>= _) _ _ _
    exact wpAny_bind (RZ.nextOf_tuple_end (s := { s with heap := h1 }) hh it1 il hx fun h3 e sb3 he => hE h3 e (fun c o c1 c2 c3 x => sb3 _ _ (c3 r hm) (sb1.extBut _ _ c1 x)) he)

theorem pyNext_item {z TI TO : Addr} {rs : List Rw} {k : Nat} {f0 : Value} {f : Bool} {to : Array Value} {vs : List Value} {Q : Option Value → Shared → Prop} (D : Apart z TI TO rs) (hn : 0 < rs.length) (hl : rs.length ≤ 1000) (hf : Fld0 f0)
    (hz : ZipO s.heap z TI TO f0 f) (hTI : TupO s.heap TI (rs.map fun r => Value.ref r.it).toArray) (hTO : TupO s.heap TO to) (hto : to.size = rs.length) (hi : ItsT s.heap rs k 0) (hv : Vs rs k vs)
    (hQ : ∀ h' f0' f' to', Fld0 f0' → ZipO h' z TI TO f0' f' → TupO h' TI (rs.map fun r => Value.ref r.it).toArray → TupO h' TO to' → to'.size = rs.length → ItsT h' rs (k + 1) 0 → TupO h' s.heap.objs.size vs.toArray →
      h'.objs.size = s.heap.objs.size + 1 → (∀ c o, c ≠ z → c ≠ TO → (∀ r ∈ rs, c ≠ r.it) → s.heap.get? c = some o → h'.get? c = some o) → Q (some (.ref s.heap.objs.size)) { s with heap := h' }) :
    wpAny (model prog w) A (pyNext (.ref z)) Q E s := by
  have hT : s.TypeIs (.ref z) "zip" := ⟨_, hz, rfl⟩
  unfold pyNext
  exact wpAny_bind (wpAny_attempt (wpAny_callSpecial?_slot (name := Str.ofString "__next__") hT F.slot_zip_next
    (wpAny_call_entry F.slot_zip_next hT F.entry_zip_next
      (next_item D hn hl hf hz hTI hTO hto hi hv fun h' a b c d1 d2 d3 d4 d5 d6 d7 d8 d9 => wpAny_pure (hQ h' a b c d1 d2 d3 d4 d5 d6 d7 d8 d9)) (F.args_zip_next_1 _))))
theorem pyNext_end {z TI TO : Addr} {r : Rw} {t : List Rw} {k : Nat} {f0 : Value} {f : Bool} {Q : Option Value → Shared → Prop} (hh : A.handled = none) (D : Apart z TI TO (r :: t)) (hf : Fld0 f0)
    (hz : ZipO s.heap z TI TO f0 f) (hTI : TupO s.heap TI ((r :: t).map fun r => Value.ref r.it).toArray) (hi : ItsT s.heap (r :: t) k 0) (hx : r.xs[k]? = none)
    (hQ : ∀ h', (∀ c o, c ≠ z → c ≠ TO → (∀ q ∈ r :: t, c ≠ q.it) → s.heap.get? c = some o → h'.get? c = some o) → Q none { s with heap := h' }) :
    wpAny (model prog w) A (pyNext (.ref z)) Q E s := by
  have hT : s.TypeIs (.ref z) "zip" := ⟨_, hz, rfl⟩
  unfold pyNext
  refine wpAny_bind (wpAny_attempt (wpAny_callSpecial?_slot (name := Str.ofString "__next__") hT F.slot_zip_next
    (wpAny_call_entry F.slot_zip_next hT F.entry_zip_next (next_end (to := #[]) hh D hf hz hTI hi hx fun h' e hk he => ?_) (F.args_zip_next_1 _))))
  obtain ⟨o, ho, hc⟩ := he
  refine wpAny_bind (wpAny_isInstance (T := "StopIteration") (b := true) ⟨o, ho, hc⟩ isSubtype_stop ?_)
  exact wpAny_pure (hQ _ hk)
theorem meets_new (ls : List (Addr × Array Value)) (hl : ls.length ≤ 1000) :
    Meets (Builtin.«zip.__new__» ⟨.type "zip" :: ls.map fun l => .ref l.1, []⟩) (fun _ R s => (∀ l ∈ ls, s.heap.IsTuple l.1 l.2) ∧
      ∀ h', ZipO h' (s.heap.objs.size + ls.length + 2) (s.heap.objs.size + ls.length) (s.heap.objs.size + ls.length + 1) .none false → TupO h' (s.heap.objs.size + ls.length) ((rowsAt s.heap.objs.size ls).map fun r => Value.ref r.it).toArray →
        TupO h' (s.heap.objs.size + ls.length + 1) (List.replicate ls.length Value.none).toArray → ItsT h' (rowsAt s.heap.objs.size ls) 0 0 → (∀ c o, s.heap.get? c = some o → h'.get? c = some o) →
        R (.ok (.ret (.ref (s.heap.objs.size + ls.length + 2)))) { s with heap := h' }) :=
  .of_wp fun prog w A R s h => by
    obtain ⟨hL, h⟩ := h
    have hsub := sub_zip
    obtain ⟨hp, g, d, tk, os⟩ := s
    unfold Builtin.«zip.__new__» Builtin.SmallTypes.newClass
    repeat (any_goals (first | assumption | wp_step))
    show wpAny _ _ (forIn (ls.map fun l => Value.ref l.1) (#[] : Array Value) fun x its => holding its.toList (pyIter x) >>= fun v => pure (ForInStep.yield (its.push v))) _ _ _
    dsimp only at hL h
    refine forIn_by (s := ⟨hp, g, d, tk, os⟩) (fun j b s' => j ≤ ls.length ∧ b = ((rowsAt hp.objs.size (ls.take j)).map fun r => Value.ref r.it).toArray ∧ ∃ h', s' = ⟨h', g, d, tk, os⟩ ∧ h'.objs.size = hp.objs.size + j ∧ ItsT h' (rowsAt hp.objs.size (ls.take j)) 0 0 ∧
      (∀ c o, hp.get? c = some o → h'.get? c = some o)) _ 0 _ ⟨Nat.zero_le _, rfl, hp, rfl, rfl, fun m r e => (by simp [rowsAt] at e), fun _ _ e => e⟩ ?_ ?_
    · rintro j x b s' hj ⟨hjl, rfl, h', rfl, hsz, hi, hk⟩
      rw [Nat.zero_add] at hi hsz hjl ⊢
      rw [List.getElem?_map] at hj
      cases e : ls[j]? with
      | none =>
        rw [e] at hj
        cases hj
      | some l =>
        rw [e] at hj
        have hx : Value.ref l.1 = x := Option.some.inj hj
        subst hx
        have hlt := (List.getElem?_eq_some_iff.mp e).1
        have hll : h'.IsTuple l.1 l.2 := (hL l (List.mem_of_getElem? e)).at fun o q => hk _ o q
        refine wpAny_bind (wpAny_holding (wpAny_pyIter_tuple (s := ⟨h', g, d, tk, os⟩) hll (wpAny_pure ⟨_, rfl, hlt, ?_, _, rfl, ?_, ?_, fun c o q => Heap.get?_push_of_some _ (hk c o q)⟩)))
        · rw [List.take_succ, e, rowsAt_app, List.map_append]
          show Array.push _ (Value.ref h'.objs.size) = _
          rw [hsz, List.length_take, Nat.min_eq_left (Nat.le_of_lt hlt)]
          simp [rowsAt]
        · rw [Heap.size_push, hsz]
          omega
        · intro m r er
          rw [List.take_succ, e, rowsAt_app, List.length_take, Nat.min_eq_left (Nat.le_of_lt hlt)] at er
          have up : ∀ c o, h'.get? c = some o → (h'.push { cls := .type "tuple_iterator", data := .fields #[.ref l.1, .int 0 0] }).get? c = some o := fun c o q => Heap.get?_push_of_some _ q
          rw [List.getElem?_append] at er
          split at er
          · exact ⟨(hi m r er).1.at fun o q => up _ o q, (hi m r er).2.at fun o q => up _ o q⟩
          · have em : r = ⟨hp.objs.size + j, l.1, l.2⟩ := by
              simp only [Option.toList, rowsAt] at er
              have := List.mem_of_getElem? er
              simpa using this
            subst em
            refine ⟨?_, hll.at fun o q => up _ o q⟩
            rw [if_neg (Nat.not_lt_zero _)]
            show Heap.IsTupleIter _ (hp.objs.size + j) _ _
            rw [← hsz]
            exact ⟨_, Heap.get?_push_size _ rfl, rfl, rfl⟩
    · rintro b s' ⟨hjl, rfl, h', rfl, hsz, hi, hk⟩
      have hlen : 0 + (ls.map fun l => Value.ref l.1).length = ls.length := by simp
      rw [hlen] at hsz hi ⊢
      rw [List.take_length] at hi ⊢
      refine wpAny_pure ?_
      have rl : ((rowsAt hp.objs.size ls).map fun r => Value.ref r.it).length = ls.length := by rw [List.length_map, rowsAt_len]
      refine wpAny_bind (wpAny_newTuple ?_ (by have := Bw.sz63 hl; show ((rowsAt hp.objs.size ls).map fun r => Value.ref r.it).length ≤ _; omega))
      refine wpAny_bind (wpAny_newTuple ?_ (by have := Bw.sz63 hl; rw [List.length_map]; show ((rowsAt hp.objs.size ls).map fun r => Value.ref r.it).length ≤ _; omega))
      refine wpAny_bind ?_
      unfold Builtin.SmallTypes.newRecord Builtin.SmallTypes.ownedTupleFields
      refine wpAny_newObj_type ?_ (by size_fits)
      refine wpAny_pure ⟨_, rfl, ?_⟩
      have l1 : (rowsAt hp.objs.size ls).length = ls.length := rowsAt_len _ _
      generalize rowsAt hp.objs.size ls = rs at h hi l1 ⊢
      have e1 : (List.map (fun x => Value.none) (List.map (fun r => Value.ref r.it) rs).toArray.toList).toArray = (List.replicate ls.length Value.none).toArray := by
        rw [← l1]
        congr 1
        show List.map (fun x => Value.none) (List.map (fun r => Value.ref r.it) rs) = _
        rw [List.map_map]
        exact List.map_const
      rw [e1]
      have t1 : TupO (h'.push { cls := .type "tuple", data := .seq (List.map (fun r => Value.ref r.it) rs).toArray }) h'.objs.size (List.map (fun r => Value.ref r.it) rs).toArray := Heap.get?_push_size _ rfl
      have z1 : (h'.push { cls := .type "tuple", data := .seq (List.map (fun r => Value.ref r.it) rs).toArray }).objs.size = h'.objs.size + 1 := Heap.size_push ..
      have k1 : ∀ c o, h'.get? c = some o → (h'.push { cls := .type "tuple", data := .seq (List.map (fun r => Value.ref r.it) rs).toArray }).get? c = some o := fun c o q => Heap.get?_push_of_some _ q
      show R (.ok (.ret (.ref _))) ⟨Heap.push (Heap.push (Heap.push h' { cls := .type "tuple", data := .seq (List.map (fun r => Value.ref r.it) rs).toArray }) { cls := .type "tuple", data := .seq (List.replicate ls.length Value.none).toArray })
        { cls := .type "zip", data := .fields #[.none, .bool false, .bool false, .ref h'.objs.size, .ref (h'.push { cls := .type "tuple", data := .seq (List.map (fun r => Value.ref r.it) rs).toArray }).objs.size] }, g, d, tk, os⟩
      generalize h'.push { cls := .type "tuple", data := .seq (List.map (fun r => Value.ref r.it) rs).toArray } = h1 at t1 z1 k1 ⊢
      have t2 : TupO (h1.push { cls := .type "tuple", data := .seq (List.replicate ls.length Value.none).toArray }) h1.objs.size (List.replicate ls.length Value.none).toArray := Heap.get?_push_size _ rfl
      have z2 : (h1.push { cls := .type "tuple", data := .seq (List.replicate ls.length Value.none).toArray }).objs.size = h1.objs.size + 1 := Heap.size_push ..
      have k2 : ∀ c o, h1.get? c = some o → (h1.push { cls := .type "tuple", data := .seq (List.replicate ls.length Value.none).toArray }).get? c = some o := fun c o q => Heap.get?_push_of_some _ q
      show R (.ok (.ret (.ref (h1.push { cls := .type "tuple", data := .seq (List.replicate ls.length Value.none).toArray }).objs.size))) _
      generalize h1.push { cls := .type "tuple", data := .seq (List.replicate ls.length Value.none).toArray } = h2 at t2 z2 k2 ⊢
      rw [z1, hsz] at t2 z2 ⊢
      rw [hsz] at t1
      rw [z2]
      have t3 : ZipO (h2.push { cls := .type "zip", data := .fields #[.none, .bool false, .bool false, .ref (hp.objs.size + ls.length), .ref (hp.objs.size + ls.length + 1)] }) h2.objs.size (hp.objs.size + ls.length) (hp.objs.size + ls.length + 1) .none false := Heap.get?_push_size _ rfl
      have k3 : ∀ c o, h2.get? c = some o → (h2.push { cls := .type "zip", data := .fields #[.none, .bool false, .bool false, .ref (hp.objs.size + ls.length), .ref (hp.objs.size + ls.length + 1)] }).get? c = some o := fun c o q => Heap.get?_push_of_some _ q
      rw [z2] at t3
      exact h _ t3 (k3 _ _ (k2 _ _ t1)) (k3 _ _ t2) (fun m r e => ⟨(hi m r e).1.at fun o q => k3 _ o (k2 _ o (k1 _ o q)), (hi m r e).2.at fun o q => k3 _ o (k2 _ o (k1 _ o q))⟩) fun c o q => k3 _ o (k2 _ o (k1 _ o (hk c o q)))

/-- call -/
theorem call_zip (ls : List (Addr × Array Value)) (h0 : 0 < ls.length) (h6 : ls.length ≤ 6) {Q : Value → Shared → Prop} (hL : ∀ l ∈ ls, s.heap.IsTuple l.1 l.2)
    (h : ∀ h', ZipO h' (s.heap.objs.size + ls.length + 2) (s.heap.objs.size + ls.length) (s.heap.objs.size + ls.length + 1) .none false → TupO h' (s.heap.objs.size + ls.length) ((rowsAt s.heap.objs.size ls).map fun r => Value.ref r.it).toArray →
        TupO h' (s.heap.objs.size + ls.length + 1) (List.replicate ls.length Value.none).toArray → ItsT h' (rowsAt s.heap.objs.size ls) 0 0 → (∀ c o, s.heap.get? c = some o → h'.get? c = some o) →
        Q (.ref (s.heap.objs.size + ls.length + 2)) { s with heap := h' }) :
    wpAny (model prog w) A (call (.type "zip") (ls.map fun l => .ref l.1)) Q E s := by
  have l1 : (ls.map fun l => Value.ref l.1).length = ls.length := List.length_map _
  refine callType_new F.called_zip (by decide) (typeCall_zip _) (newCall_zip _ (by omega) (by omega)) (args_init _ (by omega) (by omega)) F.entry_zip_new (meets_new ls (by omega)) ⟨hL, fun h' a b c d e => ?_⟩
  exact ⟨⟨_, a, rfl⟩, h h' a b c d e⟩
end

theorem nolen_zip : typeLookup (.type "zip") "__len__" = pure none := by rw [typeLookup_type, builtinLookup_eq_fast]; kernel_rfl
theorem nohint_zip : typeLookup (.type "zip") "__length_hint__" = pure none := by rw [typeLookup_type, builtinLookup_eq_fast]; kernel_rfl
/-- a zip of tuples between two turns -/
def TnT (p : Nat) (as : List Addr) (i : Nat) (h : Heap) : Prop := ∃ f0 f to, Fld0 f0 ∧ ZipO h (p + as.length + 2) (p + as.length) (p + as.length + 1) f0 f ∧ TupO h (p + as.length) ((List.range' p as.length).map Value.ref).toArray ∧
  TupO h (p + as.length + 1) to ∧ to.size = as.length ∧ ∀ (m : Nat) a, as[m]? = some a → h.IsTupleIter (p + m) a i
theorem TnT.keep {p : Nat} {as : List Addr} {i : Nat} {h h' : Heap} (st : TnT p as i h) (k : ∀ b ∈ fpN p as.length, ∀ o, h.get? b = some o → h'.get? b = some o) : TnT p as i h' := by
  obtain ⟨f0, f, to, hf, hz, hTI, hTO, hto, hi⟩ := st
  refine ⟨f0, f, to, hf, k _ (fp_mem.mpr ⟨by omega, by omega⟩) _ hz, k _ (fp_mem.mpr ⟨by omega, by omega⟩) _ hTI, k _ (fp_mem.mpr ⟨by omega, by omega⟩) _ hTO, hto, fun m a e => ?_⟩
  have hm := (List.getElem?_eq_some_iff.mp e).1
  exact (hi m a e).at fun o q => k _ (fp_mem.mpr ⟨by omega, by omega⟩) o q
/-- the i-th of each row -/
def colV (rows : Nat → List V) (m i : Nat) : List V := (List.range m).map fun j => ((rows j)[i]?).getD .non
theorem colV_at {rows : Nat → List V} {m i j : Nat} {v : V} (hj : j < m) (e : (rows j)[i]? = some v) : (colV rows m i)[j]? = some v := by
  unfold colV
  rw [List.getElem?_map, List.getElem?_range hj]
  show some (((rows j)[i]?).getD .non) = _
  rw [e]
  rfl
section
variable {X : Cx} {pins : List (Addr × Obj)} {σ : L2.St} {A : Around} {E : Value → Shared → Prop}
theorem fp_lt {p : Nat} {as : List Addr} {i : Nat} {h : Heap} (st : TnT p as i h) : ∀ c ∈ fpN p as.length, c < h.objs.size := fun c hc => by
  obtain ⟨f0, f, to, hf, hz, _⟩ := st
  have hzl : p + as.length + 2 < h.objs.size := Heap.lt_size hz
  obtain ⟨l, u⟩ := fp_mem.mp hc
  exact Nat.lt_of_lt_of_le u (by omega)
/-- one turn -/
theorem turn_item {H : Hp} {s : Shared} {p : Nat} {as : List Addr} {rows : Nat → List V} {n i : Nat} {Q : Option Value → Shared → Prop} (ha : ∀ a ∈ as, a < p) (h0 : 0 < as.length) (h6 : as.length ≤ 6) (I : Inv X pins σ H s) (hf : ∀ b ∈ fpN p as.length, FpOk X pins H b)
    (st : TnT p as i s.heap) (hg : ∀ (m : Nat) a, as[m]? = some a → SqT X.K H a (rows m)) (hr : ∀ m, m < as.length → (rows m).length = n) (hi : i < n)
    (hQ : ∀ h', Inv X pins σ (upd H s.heap.objs.size (.tup (colV rows as.length i))) { s with heap := h' } → TnT p as (i + 1) h' → (∀ c o, c ∉ fpN p as.length → s.heap.get? c = some o → h'.get? c = some o) → Q (some (.ref s.heap.objs.size)) { s with heap := h' }) :
    wpAny (model X.prog X.w) A (pyNext (.ref (p + as.length + 2))) Q E s := by
  obtain ⟨f0, f, to, hf0, hz, hTI, hTO, hto, hit⟩ := st
  have hg' : ∀ m : Nat, ∃ q : V × Value × Array Value, ∀ a, as[m]? = some a → (rows m)[i]? = some q.1 ∧ s.heap.IsTuple a q.2.2 ∧ q.2.2[i]? = some q.2.1 ∧ RelV q.1 q.2.1 := fun m => by
    by_cases hm : m < as.length
    · have hx := hg m _ (List.getElem?_eq_getElem hm)
      have hl : i < (rows m).length := by rw [hr m hm]; exact hi
      obtain ⟨its, rv, pl, _⟩ := I.tuple hx
      obtain ⟨u, hu, ru⟩ := rv.get (List.getElem?_eq_getElem hl)
      exact ⟨((rows m)[i], u, its.toArray), fun a ea => by
        rw [List.getElem?_eq_getElem hm] at ea
        obtain rfl := Option.some.inj ea
        exact ⟨List.getElem?_eq_getElem hl, pl, by simpa using hu, ru⟩⟩
    · exact ⟨(.non, .none, #[]), fun a ea => absurd (List.getElem?_eq_some_iff.mp ea).1 hm⟩
  let G := fun m => Classical.choose (hg' m)
  have hG : ∀ (m : Nat) a, as[m]? = some a → (rows m)[i]? = some (G m).1 ∧ s.heap.IsTuple a (G m).2.2 ∧ (G m).2.2[i]? = some (G m).2.1 ∧ RelV (G m).1 (G m).2.1 := fun m => Classical.choose_spec (hg' m)
  generalize G = G at hG
  -- the same address may stand twice in as, so rows are told by place
  have hA : ∀ a, ∃ xs : Array Value, a ∈ as → s.heap.IsTuple a xs := fun a => by
    by_cases c : a ∈ as
    · obtain ⟨m, hm⟩ := List.mem_iff_getElem?.mp c
      exact ⟨_, fun _ => (hG m a hm).2.1⟩
    · exact ⟨#[], fun z => absurd z c⟩
  let G2 := fun a => Classical.choose (hA a)
  have hG2 : ∀ a, a ∈ as → s.heap.IsTuple a (G2 a) := fun a => Classical.choose_spec (hA a)
  generalize G2 = G2 at hG2
  have same : ∀ (m : Nat) a, as[m]? = some a → G2 a = (G m).2.2 := fun m a e => by
    obtain ⟨o, ho, _, k, d⟩ := hG2 a (List.mem_of_getElem? e)
    obtain ⟨o', ho', _, k', d'⟩ := (hG m a e).2.1
    rw [ho] at ho'
    cases ho'
    rw [d] at d'
    injection d'
  have rl := rowsOf_len p as G2
  have D := apart ha G2
  have rit := rowsOf_it as p G2
  have HIts : ItsT s.heap (Bz.rowsOf p as G2) i 0 := fun m r e => by
    obtain ⟨a, ea, rfl⟩ := rowsOf_get e
    rw [if_neg (Nat.not_lt_zero _)]
    exact ⟨hit m a ea, hG2 a (List.mem_of_getElem? ea)⟩
  have hV : Vs (Bz.rowsOf p as G2) i ((List.range as.length).map fun m => (G m).2.1) := ⟨by rw [List.length_map, List.length_range, rl], fun m r e => by
    obtain ⟨a, ea, rfl⟩ := rowsOf_get e
    have hm := (List.getElem?_eq_some_iff.mp ea).1
    refine ⟨(G m).2.1, by rw [List.getElem?_map, List.getElem?_range hm]; rfl, ?_⟩
    show (G2 a)[i]? = _
    rw [same m a ea]
    exact (hG m a ea).2.2.1⟩
  have hzl : p + as.length + 2 < s.heap.objs.size := Heap.lt_size hz
  rw [← rit] at hTI
  refine pyNext_item D (by omega) (by omega) hf0 hz hTI hTO (by omega) HIts hV fun h' f0' f' to' hf0' z' TI' TO' to2 i' hT hsz hk => ?_
  have cv : colV rows as.length i = (List.range as.length).map fun m => (G m).1 := by
    unfold colV
    refine List.map_congr_left fun m hm => ?_
    rw [(hG m _ (List.getElem?_eq_getElem (List.mem_range.mp hm))).1]
    rfl
  have rvs : ∀ k, k ≤ as.length → Vals ((List.range k).map fun m => (G m).1) ((List.range k).map fun m => (G m).2.1) := fun k => by
    induction k with
    | zero => exact fun _ => .nil
    | succ k ih =>
      intro hk
      rw [List.range_succ, List.map_append, List.map_append]
      exact (ih (by omega)).append (.cons (hG k _ (List.getElem?_eq_getElem (show k < as.length by omega))).2.2.2 .nil)
  have new : ObjOk X.prog X.w (upd H s.heap.objs.size (.tup (colV rows as.length i))) h' s.heap.objs.size (.tup (colV rows as.length i)) := by
    rw [cv]
    exact ⟨by show ((List.range as.length).map fun m => (G m).1).length ≤ sizeLine; rw [List.length_map, List.length_range]; exact Bw.sz63 (by omega), (List.range as.length).map fun m => (G m).2.1, rvs _ (Nat.le_refl _), ⟨_, hT, rfl, _, rfl⟩⟩
  have keep : ∀ c o, c ∉ fpN p as.length → s.heap.get? c = some o → h'.get? c = some o := fun c o hb q =>
    hk c o (fun e => hb (fp_mem.mpr (by have := eqN e; omega))) (fun e => hb (fp_mem.mpr (by have := eqN e; omega))) (fun r hr e => hb (by
        obtain ⟨m, hm⟩ := List.mem_iff_getElem?.mp hr
        obtain ⟨a, ea, rfl⟩ := rowsOf_get hm
        have hm2 := (List.getElem?_eq_some_iff.mp ea).1
        have e' := eqN e
        have e'' : @Eq Nat c (p + m) := e'
        exact fp_mem.mpr (by omega))) q
  have I1 : Inv X pins σ (upd H s.heap.objs.size (.tup (colV rows as.length i))) { s with heap := h' } :=
    I.turnedNew (t' := s.toks) (ch := fpN p as.length) keep hf (Nat.le_refl _) new
  refine hQ h' I1 ⟨f0', f', to', hf0', z', by rw [rit] at TI'; exact TI', TO', by omega, fun m a ea => ?_⟩ keep
  have er : (Bz.rowsOf p as G2)[m]? = some ⟨p + m, a, G2 a⟩ := by
    unfold Bz.rowsOf
    rw [rowsAt_get, List.getElem?_map, ea]
    rfl
  have := (i' m _ er).1
  rw [if_neg (Nat.not_lt_zero _)] at this
  exact this
theorem turn_end {H : Hp} {s : Shared} {p : Nat} {as : List Addr} {rows : Nat → List V} {n : Nat} {Q : Option Value → Shared → Prop} (hh : A.handled = none) (ha : ∀ a ∈ as, a < p) (h0 : 0 < as.length) (h6 : as.length ≤ 6) (I : Inv X pins σ H s) (hf : ∀ b ∈ fpN p as.length, FpOk X pins H b)
    (st : TnT p as n s.heap) (hg : ∀ (m : Nat) a, as[m]? = some a → SqT X.K H a (rows m)) (hr : ∀ m, m < as.length → (rows m).length = n)
    (hQ : ∀ h', Inv X pins σ H { s with heap := h' } → (∀ c o, c ∉ fpN p as.length → s.heap.get? c = some o → h'.get? c = some o) → Q none { s with heap := h' }) :
    wpAny (model X.prog X.w) A (pyNext (.ref (p + as.length + 2))) Q E s := by
  obtain ⟨f0, f, to, hf0, hz, hTI, hTO, hto, hit⟩ := st
  have hA : ∀ a, ∃ xs : Array Value, a ∈ as → s.heap.IsTuple a xs ∧ xs[n]? = none := fun a => by
    by_cases c : a ∈ as
    · obtain ⟨m, hm⟩ := List.mem_iff_getElem?.mp c
      obtain ⟨its, rv, pl, _⟩ := I.tuple (hg m a hm)
      have h1 := rv.length
      have h2 := hr m (List.getElem?_eq_some_iff.mp hm).1
      exact ⟨its.toArray, fun _ => ⟨pl, by simp; omega⟩⟩
    · exact ⟨#[], fun z => absurd z c⟩
  let G2 := fun a => Classical.choose (hA a)
  have hG2 : ∀ a, a ∈ as → s.heap.IsTuple a (G2 a) ∧ (G2 a)[n]? = none := fun a => Classical.choose_spec (hA a)
  generalize G2 = G2 at hG2
  have D := apart ha G2
  have rit := rowsOf_it as p G2
  have HIts : ItsT s.heap (Bz.rowsOf p as G2) n 0 := fun m r e => by
    obtain ⟨a, ea, rfl⟩ := rowsOf_get e
    rw [if_neg (Nat.not_lt_zero _)]
    exact ⟨hit m a ea, (hG2 a (List.mem_of_getElem? ea)).1⟩
  rw [← rit] at hTI
  have ea0 : as[0]? = some as[0] := List.getElem?_eq_getElem h0
  have hr0 : (Bz.rowsOf p as G2)[0]? = some ⟨p + 0, as[0], G2 as[0]⟩ := by
    unfold Bz.rowsOf
    rw [rowsAt_get, List.getElem?_map, ea0]
    rfl
  have hx := (hG2 as[0] (List.getElem_mem _)).2
  have hk2 : ∀ r ∈ Bz.rowsOf p as G2, ∃ m, m < as.length ∧ r.it = p + m := fun r hr => by
    obtain ⟨m, hm⟩ := List.mem_iff_getElem?.mp hr
    obtain ⟨a, ea, rfl⟩ := rowsOf_get hm
    exact ⟨m, (List.getElem?_eq_some_iff.mp ea).1, rfl⟩
  generalize Bz.rowsOf p as G2 = rs at D rit HIts hTI hr0 hk2
  cases rs with
  | nil => cases hr0
  | cons r t =>
    have er : r = ⟨p + 0, as[0], G2 as[0]⟩ := Option.some.inj hr0
    have hx' : r.xs[n]? = none := by rw [er]; exact hx
    refine pyNext_end hh D hf0 hz hTI HIts hx' fun h' hk => ?_
    have keep : ∀ c o, c ∉ fpN p as.length → s.heap.get? c = some o → h'.get? c = some o := fun c o hb q =>
      hk c o (fun e => hb (fp_mem.mpr (by have := eqN e; omega))) (fun e => hb (fp_mem.mpr (by have := eqN e; omega))) (fun q hq e => hb (by
          obtain ⟨m, hm, e2⟩ := hk2 q hq
          have e' := eqN e
          have e'' := eqN e2
          exact fp_mem.mpr (by omega))) q
    exact hQ h' (I.turnedL (t' := s.toks) (ch := fpN p as.length) keep hf) keep
/-- what has been gathered -/
structure Gath (H H' : Hp) (as : List Addr) (rows : Nat → List V) (ts : List Addr) : Prop where
  s : Same H H'
  row : ∀ (j : Nat) r, ts[j]? = some r → H r = none ∧ H' r = some (.tup (colV rows as.length j))
theorem loop {H : Hp} {p S : Nat} {as : List Addr} {rows : Nat → List V} {n : Nat} {R : Result → Shared → Prop} {res : Value} (hh : A.handled = none) (ha : ∀ a ∈ as, a < p) (h0 : 0 < as.length) (h6 : as.length ≤ 6)
    (hg : ∀ (m : Nat) a, as[m]? = some a → SqT X.K H a (rows m)) (hr : ∀ m, m < as.length → (rows m).length = n) (hn : n ≤ 1000) (hS : S ∉ fpN p as.length) :
    ∀ (k i : Nat) (s : Shared) (H' : Hp) (ts : List Addr) (c : Nat), n - i = k → i ≤ n → Inv X pins σ H' s → (∀ b ∈ fpN p as.length, FpOk X pins H' b) → FpOk X pins H' S → TnT p as i s.heap →
      s.heap.get? S = some { cls := .type "list", dict := none, data := .seq (ts.map Value.ref).toArray c, slots := #[] } → ts.length = i → Gath H H' as rows ts →
      (∀ s' H'' ts' c', Inv X pins σ H'' s' → s'.heap.get? S = some { cls := .type "list", dict := none, data := .seq (ts'.map Value.ref).toArray c', slots := #[] } → ts'.length = n → Gath H H'' as rows ts' → R (.ok (.ret res)) s') →
      codeAny (model X.prog X.w) A (.builtin "list.extend.loop" ⟨[.ref S, .ref (p + as.length + 2), res], []⟩) R s := by
  intro k
  induction k with
  | zero =>
    intro i s H' ts c hk hi I hf hfS st hSo hl g hR
    obtain rfl : i = n := by omega
    refine codeAny_builtin F.entry_extend_loop ?_
    rw [Around.under_plainId F.plain_extend_loop _]
    show wpAny _ A.in1 (pyNext (.ref (p + as.length + 2)) >>= _) _ _ s
    refine wpAny_bind (turn_end hh ha h0 h6 I hf st (fun m a e => Bw.same_tup g.s (hg m a e)) hr fun h' I' keep => ?_)
    exact wpAny_pure (hR _ H' ts c I' (keep _ _ hS hSo) hl g)
  | succ k ih =>
    intro i s H' ts c hk hi I hf hfS st hSo hl g hR
    have hlt : i < n := by omega
    refine codeAny_builtin F.entry_extend_loop ?_
    rw [Around.under_plainId F.plain_extend_loop _]
    show wpAny _ A.in1 (pyNext (.ref (p + as.length + 2)) >>= _) _ _ s
    refine wpAny_bind (turn_item ha h0 h6 I hf st (fun m a e => Bw.same_tup g.s (hg m a e)) hr hlt fun h' I' st' keep => ?_)
    have hSo' := keep _ _ hS hSo
    have hSl : S < s.heap.objs.size := Heap.lt_size hSo
    have hTn : H' s.heap.objs.size = none := I.hok.fresh (Nat.le_refl _)
    have up : ∀ {b : Addr}, b < s.heap.objs.size → FpOk X pins H' b → FpOk X pins (upd H' s.heap.objs.size (.tup (colV rows as.length i))) b := fun {b} hb ⟨q, r⟩ => ⟨by rw [upd_ne (Nat.ne_of_lt hb)]; exact q, r⟩
    have hfS' := up hSl hfS
    show wpAny _ A.in1 (updateSeq S (·.push (.ref s.heap.objs.size)) >>= _) _ _ _
    refine wpAny_bind ?_
    have ts1 : ((ts.map Value.ref).toArray.push (.ref s.heap.objs.size)) = ((ts ++ [s.heap.objs.size]).map Value.ref).toArray := by simp
    obtain ⟨c2, hS2⟩ : ∃ c2, (h'.update S (Obj.mapSeq (·.push (.ref s.heap.objs.size)))).get? S = some { cls := .type "list", dict := none, data := .seq ((ts.map Value.ref).toArray.push (.ref s.heap.objs.size)) c2, slots := #[] } := ⟨_, Heap.get?_update_self _ hSo' rfl⟩
    rw [ts1] at hS2
    have I2 := I'.turnedL (h' := h'.update S (Obj.mapSeq (·.push (.ref s.heap.objs.size)))) (t' := s.toks) (ch := [S]) (fun b o hb e => (Heap.get?_update_other _ _ (fun z : S = b => hb (by rw [z]; exact List.mem_cons_self))).trans e) (fun b hb => by
      rw [List.mem_singleton.mp hb]
      exact hfS')
    refine wpAny_updateSeq (s := { s with heap := h' }) hSo' rfl (wpAny_pure ⟨plainId_quiet F.plain_extend_loop _, ih (i + 1) _ (upd H' s.heap.objs.size (.tup (colV rows as.length i))) (ts ++ [s.heap.objs.size]) c2 (by omega) hlt I2 (fun b hb => up (fp_lt st b hb) (hf b hb)) hfS' (st'.keep fun b hb o e => ?_) hS2 (by rw [List.length_append, hl]; rfl) ?_ hR⟩)
      (by
        have : (ts.map Value.ref).toArray.size = i := by simp [hl]
        rw [this]
        have := Bw.sz63 hn
        omega) (by
        show ((ts.map Value.ref).toArray.push (.ref s.heap.objs.size)).size ≤ sizeLine + 1
        rw [ts1]
        have : ((ts ++ [s.heap.objs.size]).map Value.ref).toArray.size = i + 1 := by simp [hl]
        rw [this]
        have := Bw.sz63 hn
        omega)
    · exact (Heap.get?_update_other _ _ (fun h : S = b => hS (by rw [h]; exact hb))).trans e
    · refine ⟨g.s.trans (Bw.same_new hTn), fun j r e => ?_⟩
      have hj := (List.getElem?_eq_some_iff.mp e).1
      rw [List.length_append, List.length_singleton] at hj
      by_cases cj : j < ts.length
      · rw [List.getElem?_append_left cj] at e
        obtain ⟨g1, g2⟩ := g.row j r e
        exact ⟨g1, Bw.same_new hTn _ _ g2⟩
      · rw [List.getElem?_append_right (by omega), show j - ts.length = 0 by omega] at e
        have hx : s.heap.objs.size = r := by simpa using e
        subst hx
        have hji : j = i := by omega
        rw [hji]
        exact ⟨g.s.free hTn, upd_same⟩
end
section
variable {X : Cx} {pins : List (Addr × Obj)} {σ : L2.St} {A : Around} {E : Value → Shared → Prop}
theorem collect_zip {H : Hp} {s : Shared} {p : Nat} {as : List Addr} {rows : Nat → List V} {n : Nat} {Q : List Value → Shared → Prop} (hh : A.handled = none) (ha : ∀ a ∈ as, a < p) (h0 : 0 < as.length) (h6 : as.length ≤ 6)
    (hg : ∀ (m : Nat) a, as[m]? = some a → SqT X.K H a (rows m)) (hr : ∀ m, m < as.length → (rows m).length = n) (hn : n ≤ 1000) (I : Inv X pins σ H s) (hf : ∀ b ∈ fpN p as.length, FpOk X pins H b) (st : TnT p as 0 s.heap)
    (hQ : ∀ s' H' ts, Inv X pins σ H' s' → ts.length = n → Gath H H' as rows ts → Q (ts.map Value.ref) s') : wpAny (model X.prog X.w) A (collect (.ref (p + as.length + 2))) Q E s := by
  have hSf : s.heap.objs.size ∉ fpN p as.length := fun hm => Nat.lt_irrefl _ (fp_lt st _ hm)
  have hSI : s.heap.objs.size ≠ p + as.length + 2 := fun e => hSf (by rw [e]; exact fp_mem.mpr ⟨by omega, by omega⟩)
  have hfS : FpOk X pins H s.heap.objs.size := I.fpOk (Nat.le_refl _) (I.hok.fresh (Nat.le_refl _))
  unfold collect
  refine wpAny_bind (wpAny_runValue (codeAny_builtin F.entry_proto_collect ?_))
  rw [Around.under_plainId F.plain_proto_collect _]
  show wpAny _ A.in1 (newList [] >>= fun l => again (.builtin "list.__iadd__" ⟨[l, .ref (p + as.length + 2)], []⟩)) _ _ s
  refine wpAny_bind (wpAny_newObj_type ?_)
  refine wpAny_pure ⟨plainId_quiet F.plain_list_iadd _, codeAny_builtin F.entry_list_iadd ?_⟩
  rw [Around.under_plainId F.plain_list_iadd _]
  have I1 : Inv X pins σ H { s with heap := s.heap.push { cls := .type "list", data := .seq ([] : List Value).toArray } } := I.kept (t' := s.toks) fun b u e => Heap.get?_push_of_some _ e
  have st1 : TnT p as 0 (s.heap.push { cls := .type "list", data := .seq ([] : List Value).toArray }) := st.keep fun b _ o e => Heap.get?_push_of_some _ e
  have hS₁ : (s.heap.push { cls := .type "list", data := .seq ([] : List Value).toArray }).get? s.heap.objs.size = some { cls := .type "list", data := .seq ([] : List Value).toArray } := Heap.get?_push_size _ rfl
  generalize hh1 : s.heap.push { cls := .type "list", data := .seq ([] : List Value).toArray } = h1 at I1 st1 hS₁
  show wpAny _ A.in1 (Builtin.List.listExtendWith (.ref s.heap.objs.size) (.ref (p + as.length + 2)) (.ref s.heap.objs.size)) _ _ { s with heap := h1 }
  have hz : ∃ f0 f, ZipO h1 (p + as.length + 2) (p + as.length) (p + as.length + 1) f0 f := by
    obtain ⟨f0, f, _, _, hz, _⟩ := st1
    exact ⟨f0, f, hz⟩
  obtain ⟨f0, f, hz⟩ := hz
  have hT : ({ s with heap := h1 } : Shared).TypeIs (.ref (p + as.length + 2)) "zip" := ⟨_, hz, rfl⟩
  unfold Builtin.List.listExtendWith
  refine wpAny_bind (wpAny_typeOf hT ?_)
  have e1 : Builtin.List.listSameRef (.ref s.heap.objs.size) (.ref (p + as.length + 2)) = false := by simp [Builtin.List.listSameRef, hSI]
  have h2 : (Value.type "zip" == Value.type "list") = false := by decide
  have h3 : (Value.type "zip" == Value.type "tuple") = false := by decide
  simp only [e1, h2, h3, Bool.or_false, Bool.false_eq_true, if_false]
  refine wpAny_bind (pyIter_zip (s := { s with heap := h1 }) hz ?_)
  refine wpAny_bind (wpAny_holding ?_)
  unfold Builtin.List.listLengthHint
  refine wpAny_bind (wpAny_specialOf hT nolen_zip ?_)
  show wpAny _ A.in1 (specialOf (Value.ref (p + as.length + 2)) (Str.ofString "__length_hint__") >>= _) _ _ _
  refine wpAny_bind (wpAny_specialOf hT nohint_zip ?_)
  refine wpAny_pure ?_
  show wpAny _ A.in1 (rule "list.extend.makes-room" >>= fun _ => Builtin.List.listTouch (.ref s.heap.objs.size) >>= fun _ =>
    again (.builtin "list.extend.loop" ⟨[.ref s.heap.objs.size, .ref (p + as.length + 2), .ref s.heap.objs.size], []⟩)) _ _ _
  refine wpAny_bind (wpAny_rule ?_)
  refine wpAny_bind ?_
  show wpAny _ A.in1 (updateSeq s.heap.objs.size (·.push .none) >>= fun _ => updateSeq s.heap.objs.size (·.pop)) _ _ _
  refine wpAny_bind (wpAny_updateSeq (s := { s with heap := h1 }) hS₁ rfl ?_)
  have hS₂ := Heap.get?_update_self (Obj.mapSeq (·.push Value.none)) hS₁ rfl
  refine wpAny_updateSeq (s := { s with heap := h1.update s.heap.objs.size (Obj.mapSeq (·.push Value.none)) }) hS₂ rfl ?_
  have hS₃ := Heap.get?_update_self (Obj.mapSeq (·.pop)) hS₂ rfl
  have oth : ∀ b o, b ≠ s.heap.objs.size → h1.get? b = some o → ((h1.update s.heap.objs.size (Obj.mapSeq (·.push Value.none))).update s.heap.objs.size (Obj.mapSeq (·.pop))).get? b = some o :=
    fun b o hb e => (Heap.get?_update_other _ _ (Ne.symm hb)).trans ((Heap.get?_update_other _ _ (Ne.symm hb)).trans e)
  have I3 := I1.turnedL (h' := (h1.update s.heap.objs.size (Obj.mapSeq (·.push Value.none))).update s.heap.objs.size (Obj.mapSeq (·.pop))) (t' := s.toks) (ch := [s.heap.objs.size]) (fun b o hb e => oth b o (fun z => hb (by rw [z]; exact List.mem_cons_self)) e) (fun b hb => by
    rw [List.mem_singleton.mp hb]
    exact hfS)
  refine wpAny_pure ⟨plainId_quiet F.plain_extend_loop _, loop (A := A) (n := n) hh ha h0 h6 hg hr hn hSf n 0 _ H [] _ rfl (Nat.zero_le _) I3 hf hfS (st1.keep fun b hb o e => oth b o (fun z => hSf (by rw [← z]; exact hb)) e) hS₃ rfl ⟨.refl _, fun j r e => by simp at e⟩ fun s' H' ts c' I' hS' hl g => ?_⟩
  show wpAny _ A (load s.heap.objs.size >>= _) _ _ s'
  refine wpAny_bind (wpAny_load hS' ?_)
  refine wpAny_pure ?_
  have := hQ s' H' ts I' hl g
  simpa using this
theorem code_tuple_zip {H : Hp} {s : Shared} {p : Nat} {as : List Addr} {rows : Nat → List V} {n : Nat} {Q₁ : Value → Shared → Prop} (hh : A.handled = none) (ha : ∀ a ∈ as, a < p) (h0 : 0 < as.length) (h6 : as.length ≤ 6)
    (hg : ∀ (m : Nat) a, as[m]? = some a → SqT X.K H a (rows m)) (hr : ∀ m, m < as.length → (rows m).length = n) (hn : n ≤ 1000) (I : Inv X pins σ H s) (hf : ∀ b ∈ fpN p as.length, FpOk X pins H b) (st : TnT p as 0 s.heap)
    (hQ : ∀ s' H' ts, Inv X pins σ H' s' → ts.length = n → Gath H H' as rows ts → Q₁ (.ref s'.heap.objs.size) { s' with heap := s'.heap.push { cls := .type "tuple", data := .seq (ts.map Value.ref).toArray } }) :
    codeAny (model X.prog X.w) A (.call (.builtin "tuple.__new__") ⟨[.type "tuple", .ref (p + as.length + 2)], []⟩) (wants Q₁ E) s := by
  refine codeAny_of_tree ?_
  show wpAny _ A.in1 (do checkBuiltinCall "tuple.__new__" ⟨[.type "tuple", .ref (p + as.length + 2)], []⟩; again (.builtin "tuple.__new__" ⟨[.type "tuple", .ref (p + as.length + 2)], []⟩)) _ _ s
  refine wpAny_bind (wpAny_of_eq (F.newCall_tuple_1 _) (wpAny_pure ⟨plainId_quiet F.plain_tuple_new _, codeAny_builtin F.entry_tuple_new ?_⟩))
  rw [Around.under_plainId F.plain_tuple_new _]
  have hsub := sub_tuple_self
  have hinit := init_tuple_lookup
  have hmh := madeHere_tuple
  have hz : ∃ f0 f, ZipO s.heap (p + as.length + 2) (p + as.length) (p + as.length + 1) f0 f := by
    obtain ⟨f0, f, _, _, hz, _⟩ := st
    exact ⟨f0, f, hz⟩
  obtain ⟨f0, f, hz⟩ := hz
  have hTI : s.TypeIs (.ref (p + as.length + 2)) "zip" := ⟨_, hz, rfl⟩
  have hh1 : A.in1.handled = none := hh
  wp_walk using wpAny_typeOf hTI, collect_zip (X := X) (pins := pins) (σ := σ) (H := H) (rows := rows) (n := n) (A := A.in1) hh1 ha h0 h6 hg hr hn I hf st
  intro s' H' ts I' hl g
  show wpAny _ _ (Builtin.Tuple.tupleExact (ts.map Value.ref).toArray >>= fun v => ret v) _ _ _
  unfold Builtin.Tuple.tupleExact
  refine wpAny_bind (wpAny_newObj_type ?_ (by
    show (ts.map Value.ref).toArray.size ≤ sizeLine
    have : (ts.map Value.ref).toArray.size = n := by simp [hl]
    rw [this]
    exact Bw.sz63 hn))
  exact wpAny_pure (hQ s' H' ts I' hl g)
theorem call_tuple_zip {H : Hp} {s : Shared} {p : Nat} {as : List Addr} {rows : Nat → List V} {n : Nat} {Q : Value → Shared → Prop} (hh : A.handled = none) (ha : ∀ a ∈ as, a < p) (h0 : 0 < as.length) (h6 : as.length ≤ 6)
    (hg : ∀ (m : Nat) a, as[m]? = some a → SqT X.K H a (rows m)) (hr : ∀ m, m < as.length → (rows m).length = n) (hn : n ≤ 1000) (I : Inv X pins σ H s) (hf : ∀ b ∈ fpN p as.length, FpOk X pins H b) (st : TnT p as 0 s.heap)
    (hQ : ∀ s' H' ts, Inv X pins σ H' s' → ts.length = n → Gath H H' as rows ts → Q (.ref s'.heap.objs.size) { s' with heap := s'.heap.push { cls := .type "tuple", data := .seq (ts.map Value.ref).toArray } }) :
    wpAny (model X.prog X.w) A (call (.type "tuple") [.ref (p + as.length + 2)]) Q E s := by
  refine callType_codes (Q₁ := fun obj s₁ => s₁.TypeIs obj "tuple" ∧ Q obj s₁) F.called_tuple (F.typeCall_tuple_1 _) F.entry_object_init
    (code_tuple_zip (A := A.in1) hh ha h0 h6 hg hr hn I hf st fun s' H' ts I' hl g => ⟨⟨_, Heap.get?_push_size _ rfl, rfl⟩, hQ s' H' ts I' hl g⟩) fun obj s₁ h₁ => ?_
  exact ⟨h₁.1, F.args_object_init_2 obj _, object_init_meets F.called_tuple.init.lookup F.called_tuple.made (by decide) X.prog X.w A.in1 _ s₁ ⟨h₁.1, rfl, h₁.2⟩⟩
/-- tuple(zip( *rows)), the rows tuples of one length -/
def tTupZip (K : PySem.W.Frag) (te : TE) : TE := fun σ H Q => te σ H fun v H1 => ∃ (a : Addr) (as : List Addr) (rows : Nat → List V) (n : Nat), v = .ref a ∧ (SqT K H1 a (as.map V.ref) ∨ SqL K H1 a (as.map V.ref)) ∧ 0 < as.length ∧ as.length ≤ 6 ∧ (∀ (m : Nat) b, as[m]? = some b → SqT K H1 b (rows m)) ∧ (∀ m, m < as.length → (rows m).length = n) ∧ n ≤ 1000 ∧
  ∀ (t : Addr) (ts : List Addr) (H2 : Hp), Same H1 H2 → H1 t = none → H2 t = some (.tup (ts.map V.ref)) → ts.length = n → (∀ (j : Nat) r, ts[j]? = some r → H1 r = none ∧ H2 r = some (.tup (colV rows as.length j))) → Q (.ref t) H2
theorem vals_of_refs : ∀ ts : List Addr, Vals (ts.map V.ref) (ts.map Value.ref)
  | [] => .nil
  | t :: ts => .cons rfl (vals_of_refs ts)
theorem pe_tupZip {e : Expr} {te : TE} {p1 p2 pos pos2 sp : Pos} (hc : X.calm = true) (hg : Gl X "tuple") (hm : X.mg "tuple" = none) (hg2 : Gl X "zip") (hm2 : X.mg "zip" = none) (he : PE X e te)
    (hst : starEach [.Starred e sp] X.env = [(true, eval e X.env)] := by rfl)
    (na : starEach [.Call (.Name "zip" p2) [.Starred e sp] [] pos2] X.env = (false, eval (.Call (.Name "zip" p2) [.Starred e sp] [] pos2) X.env) :: starEach [] X.env := by rfl) :
    PE X (.Call (.Name "tuple" p1) [.Call (.Name "zip" p2) [.Starred e sp] [] pos2] [] pos) (tTupZip X.K te) := by
  refine ⟨fun pins s σ H Q I h => ?_⟩
  refine Call_ (ld_blt I hg hm boot_tuple (PyProof.Rows.callWith_type1 (args_cons ?_ na)))
  refine Call_ (ld_blt I hg2 hm2 PyProof.Rows.boot_zip (callWith_typeS (thn (he.run pins s σ H _ I h) fun v s1 ⟨y, H1, I1, ry, q1⟩ => ?_) hst))
  obtain ⟨a, as, rows, n, rfl, hq, h0, h6, hL, hr, hn, q⟩ := q1
  obtain rfl : v = Value.ref a := ry
  have star : ∀ {Q' : List Value → Shared → Prop}, (∀ us s2, Inv X pins σ H1 s2 → Vals (as.map V.ref) us → Q' us s2) → PySem.W.StarOf (model X.prog X.w) X.A X.xe (.ref a) Q' s1 := fun hQ' => StX.star_any I1 hq fun us s2 I2 rv => hQ' us s2 I2 rv
  refine star fun us s2 I2 rv => ?_
  obtain rfl := vals_refs rv
  have hL' : ∀ b : Addr, ∃ its : Array Value, b ∈ as → s2.heap.IsTuple b its := fun b => by
    by_cases m : b ∈ as
    · obtain ⟨k, hk⟩ := List.mem_iff_getElem?.mp m
      obtain ⟨its, _, pl, _⟩ := I2.tuple (hL k b hk)
      exact ⟨its.toArray, fun _ => pl⟩
    · exact ⟨#[], fun z => absurd z m⟩
  let G := fun b => Classical.choose (hL' b)
  have hG : ∀ b ∈ as, s2.heap.IsTuple b (G b) := fun b m => Classical.choose_spec (hL' b) m
  generalize G = G at hG
  have lt : ∀ b ∈ as, b < s2.heap.objs.size := fun b m => by
    obtain ⟨o, ho, _⟩ := hG b m
    exact Heap.lt_size ho
  have e1 : as.map Value.ref = (as.map fun b => (b, G b)).map fun l => Value.ref l.1 := by
    rw [List.map_map]
    rfl
  rw [e1]
  have l1 : (as.map fun b => (b, G b)).length = as.length := List.length_map _
  refine call_zip _ (by omega) (by omega) (fun l hl => ?_) fun h' hz hTI hTO hi hk => ?_
  · obtain ⟨b, hb, rfl⟩ := List.mem_map.mp hl
    exact hG b hb
  · have I3 : Inv X pins σ H1 { s2 with heap := h' } := I2.kept (t' := s2.toks) hk
    have rit := rowsOf_it as s2.heap.objs.size G
    rw [l1] at hz hTI hTO ⊢
    have hTI' : TupO h' (s2.heap.objs.size + as.length) ((List.range' s2.heap.objs.size as.length).map Value.ref).toArray := by
      rw [← rit]
      exact hTI
    have st : TnT s2.heap.objs.size as 0 h' := ⟨_, _, _, .inl rfl, hz, hTI', hTO, by simp, fun m a ea => by
      have er : (rowsAt s2.heap.objs.size (as.map fun b => (b, G b)))[m]? = some ⟨s2.heap.objs.size + m, a, G a⟩ := by
        rw [rowsAt_get, List.getElem?_map, ea]
        rfl
      have := (hi m _ er).1
      rw [if_neg (Nat.not_lt_zero _)] at this
      exact this⟩
    have hf : ∀ b ∈ fpN s2.heap.objs.size as.length, FpOk X pins H1 b := fun c hc => by
      have hle : s2.heap.objs.size ≤ c := (fp_mem.mp hc).1
      exact I2.fpOk hle (I2.hok.fresh hle)
    refine args_nil ?_
    refine call_tuple_zip (s := { s2 with heap := h' }) (I3.ok.hd hc) lt h0 h6 hL hr hn I3 hf st fun s' H2 ts I4 hl g => ?_
    have hTn : H2 s'.heap.objs.size = none := I4.hok.fresh (Nat.le_refl _)
    refine ⟨.ref s'.heap.objs.size, upd H2 s'.heap.objs.size (.tup (ts.map V.ref)), I4.laid (t' := s'.toks) (fun b u e => Heap.get?_push_of_some _ e) (Nat.le_refl _) (show ObjOk X.prog X.w _ _ _ (.tup (ts.map V.ref)) from ⟨?_, ts.map Value.ref, vals_of_refs ts, ?_⟩), rfl, q _ ts _ (g.s.trans (Bw.same_new hTn)) (g.s.free hTn) upd_same hl fun j r e => ?_⟩
    · rw [List.length_map, hl]
      exact Bw.sz63 hn
    · exact ⟨_, Heap.get?_push_size _ rfl, rfl, _, rfl⟩
    · obtain ⟨g1, g2⟩ := g.row j r e
      exact ⟨g1, Bw.same_new hTn _ _ g2⟩
end
end Bt
/-! list(zip(a, b)) of two tuples. -/
namespace Bt
open PySem PySem.Spec PyProof.Rows L2 Bz
open PySem.Sem (wp)
section
variable {X : Cx} {pins : List (Addr × Obj)} {σ : L2.St} {A : Around} {E : Value → Shared → Prop}
/-- an object that wasn't told of is told of -/
theorem found {H : Hp} {s : Shared} {S : Addr} {ob : HO} (I : Inv X pins σ H s) (f : FpOk X pins H S) (new : ObjOk X.prog X.w (upd H S ob) s.heap S ob) : Inv X pins σ (upd H S ob) s := by
  have hn : H S = none := f.1
  have ns : ∀ b u, H b = some u → b ≠ S := fun b u e z => by
    subst z
    rw [hn] at e
    cases e
  refine I.step (h' := s.heap) (t' := s.toks) (g' := s.gens) (d' := s.drawn) (ch := [S]) (fun b hb => ?_) (fun b o _ _ hc e _ => e) (fun b o _ _ hc e _ => ⟨o.slots, e⟩)
    (fun b o hb e n => ?_) (fun b o hc e => ⟨o, e⟩) (fun b xs e => ?_) (fun b o u e => ?_) (fun b ps e => ⟨#[], ?_⟩) (fun m hm => hm) (fun b u e => ?_) I.bare
  · rw [List.mem_singleton.mp hb]
    exact ⟨f.2.2.2.1, f.2.1, f.2.2.2.2.1, f.2.2.2.2.2⟩
  · rw [upd_ne (fun z => hb (by rw [z]; exact List.mem_singleton.mpr rfl))]
    exact n
  · rw [upd_ne (ns b _ e)]
    exact e
  · rw [upd_ne (ns b _ e)]
    exact e
  · rw [upd_ne (ns b _ e), e]
    simp
  · by_cases hb : b = S
    · subst hb
      rw [upd_same] at e
      cases e
      exact new
    · rw [upd_ne hb] at e
      exact (I.hok b u e).stay (fun c v _ q => q) (fun c q => by rw [upd_ne (ns c _ q)]; exact q) fun c xs q => by rw [upd_ne (ns c _ q)]; exact q
theorem loop2 {H : Hp} {p S : Nat} {as : List Addr} {rows : Nat → List V} {n : Nat} {R : Result → Shared → Prop} {res : Value} (hh : A.handled = none) (ha : ∀ a ∈ as, a < p) (h0 : 0 < as.length) (h6 : as.length ≤ 6)
    (hg : ∀ (m : Nat) a, as[m]? = some a → SqT X.K H a (rows m)) (hr : ∀ m, m < as.length → (rows m).length = n) (hn : n ≤ 1000) (hS : S ∉ fpN p as.length) :
    ∀ (k i : Nat) (s : Shared) (H' : Hp) (ts : List Addr) (c : Nat), n - i = k → i ≤ n → Inv X pins σ H' s → (∀ b ∈ fpN p as.length, FpOk X pins H' b) → FpOk X pins H' S → TnT p as i s.heap →
      s.heap.get? S = some { cls := .type "list", dict := none, data := .seq (ts.map Value.ref).toArray c, slots := #[] } → ts.length = i → Gath H H' as rows ts →
      (∀ s' H'' ts' c', Inv X pins σ H'' s' → FpOk X pins H'' S → s'.heap.get? S = some { cls := .type "list", dict := none, data := .seq (ts'.map Value.ref).toArray c', slots := #[] } → ts'.length = n → Gath H H'' as rows ts' → R (.ok (.ret res)) s') →
      codeAny (model X.prog X.w) A (.builtin "list.extend.loop" ⟨[.ref S, .ref (p + as.length + 2), res], []⟩) R s := by
  intro k
  induction k with
  | zero =>
    intro i s H' ts c hk hi I hf hfS st hSo hl g hR
    obtain rfl : i = n := by omega
    refine codeAny_builtin F.entry_extend_loop ?_
    rw [Around.under_plainId F.plain_extend_loop _]
    show wpAny _ A.in1 (pyNext (.ref (p + as.length + 2)) >>= _) _ _ s
    refine wpAny_bind (turn_end hh ha h0 h6 I hf st (fun m a e => Bw.same_tup g.s (hg m a e)) hr fun h' I' keep => ?_)
    exact wpAny_pure (hR _ H' ts c I' hfS (keep _ _ hS hSo) hl g)
  | succ k ih =>
    intro i s H' ts c hk hi I hf hfS st hSo hl g hR
    have hlt : i < n := by omega
    refine codeAny_builtin F.entry_extend_loop ?_
    rw [Around.under_plainId F.plain_extend_loop _]
    show wpAny _ A.in1 (pyNext (.ref (p + as.length + 2)) >>= _) _ _ s
    refine wpAny_bind (turn_item ha h0 h6 I hf st (fun m a e => Bw.same_tup g.s (hg m a e)) hr hlt fun h' I' st' keep => ?_)
    have hSo' := keep _ _ hS hSo
    have hSl : S < s.heap.objs.size := Heap.lt_size hSo
    have hTn : H' s.heap.objs.size = none := I.hok.fresh (Nat.le_refl _)
    have up : ∀ {b : Addr}, b < s.heap.objs.size → FpOk X pins H' b → FpOk X pins (upd H' s.heap.objs.size (.tup (colV rows as.length i))) b := fun {b} hb ⟨q, r⟩ => ⟨by rw [upd_ne (Nat.ne_of_lt hb)]; exact q, r⟩
    have hfS' := up hSl hfS
    show wpAny _ A.in1 (updateSeq S (·.push (.ref s.heap.objs.size)) >>= _) _ _ _
    refine wpAny_bind ?_
    have ts1 : ((ts.map Value.ref).toArray.push (.ref s.heap.objs.size)) = ((ts ++ [s.heap.objs.size]).map Value.ref).toArray := by simp
    obtain ⟨c2, hS2⟩ : ∃ c2, (h'.update S (Obj.mapSeq (·.push (.ref s.heap.objs.size)))).get? S = some { cls := .type "list", dict := none, data := .seq ((ts.map Value.ref).toArray.push (.ref s.heap.objs.size)) c2, slots := #[] } := ⟨_, Heap.get?_update_self _ hSo' rfl⟩
    rw [ts1] at hS2
    have I2 := I'.turnedL (h' := h'.update S (Obj.mapSeq (·.push (.ref s.heap.objs.size)))) (t' := s.toks) (ch := [S]) (fun b o hb e => (Heap.get?_update_other _ _ (fun z : S = b => hb (by rw [z]; exact List.mem_cons_self))).trans e) (fun b hb => by
      rw [List.mem_singleton.mp hb]
      exact hfS')
    refine wpAny_updateSeq (s := { s with heap := h' }) hSo' rfl (wpAny_pure ⟨plainId_quiet F.plain_extend_loop _, ih (i + 1) _ (upd H' s.heap.objs.size (.tup (colV rows as.length i))) (ts ++ [s.heap.objs.size]) c2 (by omega) hlt I2 (fun b hb => up (fp_lt st b hb) (hf b hb)) hfS' (st'.keep fun b hb o e => ?_) hS2 (by rw [List.length_append, hl]; rfl) ?_ hR⟩)
      (by
        have : (ts.map Value.ref).toArray.size = i := by simp [hl]
        rw [this]
        have := Bw.sz63 hn
        omega) (by
        show ((ts.map Value.ref).toArray.push (.ref s.heap.objs.size)).size ≤ sizeLine + 1
        rw [ts1]
        have : ((ts ++ [s.heap.objs.size]).map Value.ref).toArray.size = i + 1 := by simp [hl]
        rw [this]
        have := Bw.sz63 hn
        omega)
    · exact (Heap.get?_update_other _ _ (fun h : S = b => hS (by rw [h]; exact hb))).trans e
    · refine ⟨g.s.trans (Bw.same_new hTn), fun j r e => ?_⟩
      have hj := (List.getElem?_eq_some_iff.mp e).1
      rw [List.length_append, List.length_singleton] at hj
      by_cases cj : j < ts.length
      · rw [List.getElem?_append_left cj] at e
        obtain ⟨g1, g2⟩ := g.row j r e
        exact ⟨g1, Bw.same_new hTn _ _ g2⟩
      · rw [List.getElem?_append_right (by omega), show j - ts.length = 0 by omega] at e
        have hx : s.heap.objs.size = r := by simpa using e
        subst hx
        have hji : j = i := by omega
        rw [hji]
        exact ⟨g.s.free hTn, upd_same⟩
theorem extend_zip {R : Result → Shared → Prop} {H : Hp} {s : Shared} {p S c : Nat} {res : Value} {as : List Addr} {rows : Nat → List V} {n : Nat} (hh : A.handled = none) (ha : ∀ a ∈ as, a < p) (h0 : 0 < as.length) (h6 : as.length ≤ 6)
    (hg : ∀ (m : Nat) a, as[m]? = some a → SqT X.K H a (rows m)) (hr : ∀ m, m < as.length → (rows m).length = n) (hn : n ≤ 1000) (I : Inv X pins σ H s) (hf : ∀ b ∈ fpN p as.length, FpOk X pins H b) (st : TnT p as 0 s.heap)
    (hS : S ∉ fpN p as.length) (hfS : FpOk X pins H S) (hSo : s.heap.get? S = some { cls := .type "list", data := .seq (#[] : Array Value) c })
    (hR : ∀ s' H'' ts' c', Inv X pins σ H'' s' → FpOk X pins H'' S → s'.heap.get? S = some { cls := .type "list", dict := none, data := .seq (ts'.map Value.ref).toArray c', slots := #[] } → ts'.length = n → Gath H H'' as rows ts' → R (.ok (.ret res)) s') :
    wpAny (model X.prog X.w) A.in1 (Builtin.List.listExtendWith (.ref S) (.ref (p + as.length + 2)) res)
      (fun fin s' => match fin with | .done f => R (.ok f) s' | .again c' => c'.quiet = true ∧ codeAny (model X.prog X.w) A c' R s') (fun e s' => R (.error e) s') s := by
  have hSI : S ≠ p + as.length + 2 := fun e => hS (by rw [e]; exact fp_mem.mpr ⟨by omega, by omega⟩)
  have hz : ∃ f0 f, ZipO s.heap (p + as.length + 2) (p + as.length) (p + as.length + 1) f0 f := by
    obtain ⟨f0, f, _, _, hz, _⟩ := st
    exact ⟨f0, f, hz⟩
  obtain ⟨f0, f, hz⟩ := hz
  have hT : s.TypeIs (.ref (p + as.length + 2)) "zip" := ⟨_, hz, rfl⟩
  unfold Builtin.List.listExtendWith
  refine wpAny_bind (wpAny_typeOf hT ?_)
  have e1 : Builtin.List.listSameRef (.ref S) (.ref (p + as.length + 2)) = false := by simp [Builtin.List.listSameRef, hSI]
  have h2 : (Value.type "zip" == Value.type "list") = false := by decide
  have h3 : (Value.type "zip" == Value.type "tuple") = false := by decide
  simp only [e1, h2, h3, Bool.or_false, Bool.false_eq_true, if_false]
  refine wpAny_bind (pyIter_zip hz ?_)
  refine wpAny_bind (wpAny_holding ?_)
  unfold Builtin.List.listLengthHint
  refine wpAny_bind (wpAny_specialOf hT nolen_zip ?_)
  show wpAny _ A.in1 (specialOf (Value.ref (p + as.length + 2)) (Str.ofString "__length_hint__") >>= _) _ _ _
  refine wpAny_bind (wpAny_specialOf hT nohint_zip ?_)
  refine wpAny_pure ?_
  show wpAny _ A.in1 (rule "list.extend.makes-room" >>= fun _ => Builtin.List.listTouch (.ref S) >>= fun _ =>
    again (.builtin "list.extend.loop" ⟨[.ref S, .ref (p + as.length + 2), res], []⟩)) _ _ _
  refine wpAny_bind (wpAny_rule ?_)
  refine wpAny_bind ?_
  show wpAny _ A.in1 (updateSeq S (·.push .none) >>= fun _ => updateSeq S (·.pop)) _ _ _
  refine wpAny_bind (wpAny_updateSeq hSo rfl ?_)
  have hS₂ := Heap.get?_update_self (Obj.mapSeq (·.push Value.none)) hSo rfl
  refine wpAny_updateSeq (s := { s with heap := s.heap.update S (Obj.mapSeq (·.push Value.none)) }) hS₂ rfl ?_
  have hS₃ := Heap.get?_update_self (Obj.mapSeq (·.pop)) hS₂ rfl
  have oth : ∀ b o, b ≠ S → s.heap.get? b = some o → ((s.heap.update S (Obj.mapSeq (·.push Value.none))).update S (Obj.mapSeq (·.pop))).get? b = some o :=
    fun b o hb e => (Heap.get?_update_other _ _ (Ne.symm hb)).trans ((Heap.get?_update_other _ _ (Ne.symm hb)).trans e)
  have I3 := I.turnedL (h' := (s.heap.update S (Obj.mapSeq (·.push Value.none))).update S (Obj.mapSeq (·.pop))) (t' := s.toks) (ch := [S]) (fun b o hb e => oth b o (fun z => hb (by rw [z]; exact List.mem_cons_self)) e) (fun b hb => by
    rw [List.mem_singleton.mp hb]
    exact hfS)
  refine wpAny_pure ⟨plainId_quiet F.plain_extend_loop _, loop2 (A := A) (n := n) hh ha h0 h6 hg hr hn hS n 0 _ H [] _ rfl (Nat.zero_le _) I3 hf hfS (st.keep fun b hb o e => oth b o (fun z => hS (by rw [← z]; exact hb)) e) hS₃ rfl ⟨.refl _, fun j r e => by simp at e⟩ fun s' H' ts c' I' fS hS' hl g => hR s' H' ts c' I' fS hS' hl g⟩

theorem list_zip {H : Hp} {s : Shared} {p : Nat} {as : List Addr} {rows : Nat → List V} {n : Nat} {Q : Value → Shared → Prop} (hh : A.handled = none) (ha : ∀ a ∈ as, a < p) (h0 : 0 < as.length) (h6 : as.length ≤ 6)
    (hg : ∀ (m : Nat) a, as[m]? = some a → SqT X.K H a (rows m)) (hr : ∀ m, m < as.length → (rows m).length = n) (hn : n ≤ 1000) (I : Inv X pins σ H s) (hf : ∀ b ∈ fpN p as.length, FpOk X pins H b) (st : TnT p as 0 s.heap)
    (hQ : ∀ (S : Addr) s' H' ts c', Inv X pins σ H' s' → H S = none → FpOk X pins H' S → s'.heap.get? S = some { cls := .type "list", dict := none, data := .seq (ts.map Value.ref).toArray c', slots := #[] } → ts.length = n → Gath H H' as rows ts → Q (.ref S) s') :
    wpAny (model X.prog X.w) A (call (.type "list") [.ref (p + as.length + 2)]) Q E s := by
  refine callType_codes (Q₁ := fun obj s₁ => obj = .ref s.heap.objs.size ∧ s₁ = { s with heap := s.heap.push { cls := .type "list", data := .seq #[] } }) F.called_list (F.typeCall_list_1 _) F.entry_list_init
    (code_list_new _ ⟨rfl, rfl⟩) fun obj s₁ h₁ => ?_
  obtain ⟨rfl, rfl⟩ := h₁
  have hSf : s.heap.objs.size ∉ fpN p as.length := fun hm => Nat.lt_irrefl _ (fp_lt st _ hm)
  have hfS : FpOk X pins H s.heap.objs.size := I.fpOk (Nat.le_refl _) (I.hok.fresh (Nat.le_refl _))
  have hS : (s.heap.push { cls := .type "list", data := .seq #[] }).get? s.heap.objs.size = some { cls := .type "list", data := .seq (#[] : Array Value) } := Heap.get?_push_size _ rfl
  have I1 : Inv X pins σ H { s with heap := s.heap.push { cls := .type "list", data := .seq #[] } } := I.kept (t' := s.toks) fun b u e => Heap.get?_push_of_some _ e
  have st1 : TnT p as 0 (s.heap.push { cls := .type "list", data := .seq #[] }) := st.keep fun b _ o e => Heap.get?_push_of_some _ e
  refine ⟨⟨_, hS, rfl⟩, F.args_list_init_2 _ _, ?_⟩
  generalize s.heap.push { cls := .type "list", data := .seq #[] } = h1 at hS I1 st1 ⊢
  have key := hQ s.heap.objs.size
  generalize hSz : s.heap.objs.size = S at hS hSf hfS key ⊢
  show wpAny _ A.in1.in1 (do let old ← Builtin.List.listItems (.ref S); Builtin.List.listUpdate (.ref S) (fun _ => #[]); letGo old.toList.reverse; Builtin.List.listExtendWith (.ref S) (.ref (p + as.length + 2)) .none) _ _ _
  refine wpAny_bind ?_
  unfold Builtin.List.listItems
  refine wpAny_bind (wpAny_seqItems (s := { s with heap := h1 }) hS rfl (wpAny_pure ?_))
  show wpAny _ A.in1.in1 (updateSeq S (fun _ => #[]) >>= fun _ => letGo (#[] : Array Value).toList.reverse >>= fun _ => Builtin.List.listExtendWith (.ref S) (.ref (p + as.length + 2)) .none) _ _ _
  refine wpAny_bind (wpAny_updateSeq (s := { s with heap := h1 }) hS rfl ?_)
  have hS₂ := Heap.get?_update_self (Obj.mapSeq (fun _ => (#[] : Array Value))) hS rfl
  have oth : ∀ b o, b ≠ S → h1.get? b = some o → (h1.update S (Obj.mapSeq (fun _ => (#[] : Array Value)))).get? b = some o :=
    fun b o hb e => (Heap.get?_update_other _ _ (Ne.symm hb)).trans e
  have I2 := I1.turnedL (h' := h1.update S (Obj.mapSeq (fun _ => (#[] : Array Value)))) (t' := s.toks) (ch := [S]) (fun b o hb e => oth b o (fun z => hb (by rw [z]; exact List.mem_cons_self)) e) (fun b hb => by
    rw [List.mem_singleton.mp hb]
    exact hfS)
  refine wpAny_bind (wpAny_letGo ?_)
  refine extend_zip (A := A.in1) (s := { s with heap := h1.update S (Obj.mapSeq (fun _ => (#[] : Array Value))) }) hh ha h0 h6 hg hr hn I2 hf (st1.keep fun b hb o e => oth b o (fun z => hSf (by rw [← z]; exact hb)) e) hSf hfS hS₂ fun s' H' ts c' I' fS hS' hl g => ?_
  exact ⟨rfl, key s' H' ts c' I' hfS.1 fS hS' hl g⟩
/-- list(zip(a, b)), two tuples of one length -/
def tListZip (K : PySem.W.Frag) (ta : TA) : TE := fun σ H Q => ta σ H fun vs H1 => ∃ (a b : Addr) (xs ys : List V), vs = [.ref a, .ref b] ∧ SqT K H1 a xs ∧ SqT K H1 b ys ∧ xs.length = ys.length ∧ xs.length ≤ 1000 ∧
  ∀ (t : Addr) (ts : List Addr) (H2 : Hp), Same H1 H2 → H1 t = none → H2 t = some (.lst (ts.map V.ref)) → ts.length = xs.length → (∀ (j : Nat) r x y, ts[j]? = some r → xs[j]? = some x → ys[j]? = some y → H1 r = none ∧ H2 r = some (.tup [x, y])) → Q (.ref t) H2
theorem pe_listZip {e e2 : Expr} {ta : TA} {p1 p2 pos pos2 : Pos} (hc : X.calm = true) (hg : Gl X "list") (hm : X.mg "list" = none) (hg2 : Gl X "zip") (hm2 : X.mg "zip" = none) (he : PA X [e, e2] ta)
    (hs : starEach [e, e2] X.env = (false, eval e X.env) :: starEach [e2] X.env := by rfl) (hpl : (backTo pos2 (starEach [e2] X.env)).any (·.1) = false := by rfl)
    (na : starEach [.Call (.Name "zip" p2) [e, e2] [] pos2] X.env = (false, eval (.Call (.Name "zip" p2) [e, e2] [] pos2) X.env) :: starEach [] X.env := by rfl) :
    PE X (.Call (.Name "list" p1) [.Call (.Name "zip" p2) [e, e2] [] pos2] [] pos) (tListZip X.K ta) := by
  refine ⟨fun pins s σ H Q I h => ?_⟩
  refine Call_ (ld_blt I hg hm boot_list (PyProof.Rows.callWith_type1 (args_cons ?_ na)))
  refine Call_ (ld_blt I hg2 hm2 PyProof.Rows.boot_zip (PyProof.Rows.callWith_type1 (thn (he.run pos2 pins s σ H _ I h) fun us s1 ⟨vs, H1, I1, r1, q1⟩ => ?_) hs hpl))
  obtain ⟨a, b, xs, ys, rfl, qa, qb, le, l9, q⟩ := q1
  obtain rfl : us = [.ref a, .ref b] := by
    cases r1 with
    | cons r rr => cases rr with
      | cons r' rr =>
        cases rr
        cases r
        cases r'
        rfl
  obtain ⟨its, rv, t1, _⟩ := I1.tuple qa
  obtain ⟨its2, rv2, t2, _⟩ := I1.tuple qb
  let as : List Addr := [a, b]
  let rows : Nat → List V := fun m => if m = 0 then xs else ys
  have hg : ∀ (m : Nat) b', as[m]? = some b' → SqT X.K H1 b' (rows m) := fun m b' e => by
    match m, e with
    | 0, e =>
      obtain rfl := Option.some.inj e
      exact qa
    | 1, e =>
      obtain rfl := Option.some.inj e
      exact qb
  have hr : ∀ m, m < as.length → (rows m).length = xs.length := fun m hm => by
    match m, hm with
    | 0, _ => rfl
    | 1, _ => exact le.symm
  have hL : ∀ l ∈ [(a, its.toArray), (b, its2.toArray)], s1.heap.IsTuple l.1 l.2 := fun l hl => by
    rcases List.mem_cons.mp hl with rfl | hl
    · exact t1
    · rw [List.mem_singleton.mp hl]
      exact t2
  have lt : ∀ c ∈ as, c < s1.heap.objs.size := fun c m => by
    rcases List.mem_cons.mp m with rfl | m
    · obtain ⟨o, ho, _⟩ := t1
      exact Heap.lt_size ho
    · rw [List.mem_singleton.mp m]
      obtain ⟨o, ho, _⟩ := t2
      exact Heap.lt_size ho
  refine call_zip [(a, its.toArray), (b, its2.toArray)] (by show 0 < 2; decide) (by show 2 ≤ 6; decide) hL fun h' hz hTI hTO hi hk => ?_
  have I3 : Inv X pins σ H1 { s1 with heap := h' } := I1.kept (t' := s1.toks) hk
  have st : TnT s1.heap.objs.size as 0 h' := ⟨_, _, _, .inl rfl, hz, hTI, hTO, by simp [as], fun m c ec => by
    match m, ec with
    | 0, ec =>
      have := (hi 0 _ rfl).1
      rw [if_neg (Nat.not_lt_zero _)] at this
      obtain rfl := Option.some.inj ec
      exact this
    | 1, ec =>
      have := (hi 1 _ rfl).1
      rw [if_neg (Nat.not_lt_zero _)] at this
      obtain rfl := Option.some.inj ec
      exact this⟩
  have hf : ∀ c ∈ fpN s1.heap.objs.size as.length, FpOk X pins H1 c := fun c hc => by
    have hle : s1.heap.objs.size ≤ c := (fp_mem.mp hc).1
    exact I1.fpOk hle (I1.hok.fresh hle)
  refine args_nil ?_
  refine list_zip (as := as) (s := { s1 with heap := h' }) (I3.ok.hd hc) lt (Nat.succ_pos 1) (by show 2 ≤ 6; omega) hg hr l9 I3 hf st fun S s' H2 ts c' I4 hn0 fS hS hl g => ?_
  have hn : H2 S = none := fS.1
  have I5 : Inv X pins σ (upd H2 S (.lst (ts.map V.ref))) s' := found I4 fS ⟨by rw [List.length_map, hl]; exact Bw.sz63 l9, _, c', vals_of_refs ts, hS⟩
  refine ⟨.ref S, _, I5, rfl, q S ts _ (g.s.trans (Bw.same_new hn)) hn0 upd_same hl fun j r x y e ex ey => ?_⟩
  obtain ⟨g1, g2⟩ := g.row j r e
  refine ⟨g1, ?_⟩
  have g3 := Bw.same_new (o := .lst (ts.map V.ref)) hn _ _ g2
  have cv : colV rows as.length j = [x, y] := by
    show [((rows 0)[j]?).getD .non, ((rows 1)[j]?).getD .non] = _
    show [(xs[j]?).getD .non, (ys[j]?).getD .non] = _
    rw [ex, ey]
    rfl
  rw [cv] at g3
  exact g3
end
end Bt
/-! The program's look at glasses. -/
namespace Kx
open PySem PySem.Spec PyProof.Rows L2 Bw
abbrev sare_marks : Stmt := topS 23
abbrev nare_marks : List Str := ["many", "value", "mark"]
theorem care_marks : FnScope nare_marks ["many", "value"] (defScope sare_marks) :=
  ⟨rfl, rfl, rfl, by decide +kernel, rfl, by decide +kernel, by decide +kernel⟩

abbrev sis_glasses : Stmt := topS 24
abbrev nis_glasses : List Str := ["many", "value"]
theorem cis_glasses : FnScope nis_glasses ["many", "value"] (defScope sis_glasses) :=
  ⟨rfl, rfl, rfl, by decide +kernel, rfl, by decide +kernel, by decide +kernel⟩

/-- glasses of n places -/
def IsGl (n : Nat) (d : PyData) : Prop := ∃ g : List Nat, d = natsD g ∧ g.length = n ∧ ∀ x ∈ g, 0 < x → x - 1 ∈ g
theorem natsD_inj {g g' : List Nat} (h : natsD g = natsD g') : g = g' := by
  have e := PyData.tuple.inj h
  have inj : ∀ {a b : List Nat}, a.map (fun x : Nat => PyData.int (x : Nat)) = b.map (fun x : Nat => PyData.int (x : Nat)) → a = b := fun {a b} h => by
    induction a generalizing b with
    | nil =>
      cases b with
      | nil => rfl
      | cons _ _ => cases h
    | cons p a ih =>
      cases b with
      | nil => cases h
      | cons q b =>
        rw [List.map_cons, List.map_cons] at h
        have e := List.cons.inj h
        have e1 : p = q := by
          have := PyData.int.inj e.1
          omega
        rw [e1, ih e.2]
  exact inj e
theorem isGl_iff {n : Nat} {g : List Nat} : IsGl n (natsD g) ↔ g.length = n ∧ ∀ x ∈ g, 0 < x → x - 1 ∈ g := by
  constructor
  · rintro ⟨g', e, h⟩
    obtain rfl := natsD_inj e
    exact h
  · exact fun h => ⟨g, rfl, h⟩
theorem dq_nats {W : Addr → Prop} {H : Hp} : ∀ {xs : List V} {g : List Nat}, DqAll W H xs (g.map fun x : Nat => PyData.int (x : Nat)) → xs = nats g
  | [], [], _ => rfl
  | [], _ :: _, h => nomatch h
  | _ :: _, [], h => nomatch h
  | x :: xs, k :: g, h => by
    cases h with
    | cons a b =>
      cases a
      rw [dq_nats b]
      rfl
def isF0 : PyData → Bool
  | .int i => decide (0 ≤ i)
  | _ => false
theorem f0_nats : ∀ {ds : List PyData}, ds.all isF0 = true → ∃ g : List Nat, ds = g.map fun x : Nat => PyData.int (x : Nat)
  | [], _ => ⟨[], rfl⟩
  | d :: ds, h => by
    rw [List.all_cons, Bool.and_eq_true] at h
    obtain ⟨g, rfl⟩ := f0_nats h.2
    cases d with
    | int i =>
      have h1 : 0 ≤ i := of_decide_eq_true h.1
      exact ⟨i.toNat :: g, by rw [List.map_cons, Int.toNat_of_nonneg h1]⟩
    | _ => exact nomatch h.1
theorem nats_f0 (g : List Nat) : (g.map fun x : Nat => PyData.int (x : Nat)).all isF0 = true := by
  rw [List.all_map, List.all_eq_true]
  intro x _
  exact decide_eq_true (Int.natCast_nonneg x)
/-- as many unlike marks as there are numbers up to the greatest one, just if none is left out -/
theorem marks_iff {g : List Nat} {out : List Int} {m : Int} (nd : out.Nodup) (ho : ∀ k, k ∈ out ↔ k ∈ g.map fun x : Nat => (x : Int)) (hm : m ∈ g.map fun x : Nat => (x : Int)) (hb : ∀ y ∈ g.map fun x : Nat => (x : Int), y ≤ m) :
    ((out.length : Nat) : Int) = m + 1 ↔ ∀ x ∈ g, 0 < x → x - 1 ∈ g := by
  obtain ⟨M, hM, rfl⟩ := List.mem_map.mp hm
  have mo : ∀ k ∈ out, ∃ x : Nat, x ∈ g ∧ k = (x : Int) := fun k hk => by
    obtain ⟨x, hx, rfl⟩ := List.mem_map.mp ((ho k).mp hk)
    exact ⟨x, hx, rfl⟩
  have le : ∀ x ∈ g, x ≤ M := fun x hx => by
    have := hb _ (List.mem_map.mpr ⟨x, hx, rfl⟩)
    omega
  have nd2 : (out.map Int.toNat).Nodup := by
    refine List.nodup_iff_pairwise_ne.mpr (List.pairwise_map.mpr ((List.nodup_iff_pairwise_ne.mp nd).imp_of_mem fun {a b} ha hb ne z => ne ?_))
    obtain ⟨x, _, rfl⟩ := mo a ha
    obtain ⟨y, _, rfl⟩ := mo b hb
    rw [Int.toNat_natCast, Int.toNat_natCast] at z
    rw [z]
  have mem2 : ∀ x : Nat, x ∈ out.map Int.toNat ↔ x ∈ g := fun x => by
    rw [List.mem_map]
    constructor
    · rintro ⟨k, hk, rfl⟩
      obtain ⟨y, hy, rfl⟩ := mo k hk
      rw [Int.toNat_natCast]
      exact hy
    · exact fun hx => ⟨(x : Int), (ho _).mpr (List.mem_map.mpr ⟨x, hx, rfl⟩), Int.toNat_natCast x⟩
  have l2 := nodup_len (M + 1) (out.map Int.toNat) nd2 fun x hx => Nat.lt_succ_of_le (le x ((mem2 x).mp hx))
  rw [List.length_map] at l2
  constructor
  · intro e x hx x0
    have := le x hx
    exact (mem2 _).mp (l2.2 (by omega) (x - 1) (by omega))
  · intro c
    have all : ∀ k, k ≤ M → M - k ∈ g := fun k => by
      induction k with
      | zero => exact fun _ => hM
      | succ k ih =>
        intro hk
        have := c _ (ih (by omega)) (by omega)
        rwa [show M - k - 1 = M - (k + 1) by omega] at this
    have := List.Nodup.length_le_of_subset (List.nodup_range (n := M + 1)) fun y hy => (mem2 y).mpr (by
      have := all (M - y) (by omega)
      have := List.mem_range.mp hy
      rwa [show M - (M - y) = y by omega] at *)
    rw [List.length_range, List.length_map] at this
    have := l2.1
    omega
section
variable {P : Program} {w : World} {K : PySem.W.Frag} {mg : Str → Option Value} {base : Heap}
def spMk : Sp := fun vs H Q _ => ∃ (W : Addr → Prop) (v : V) (d : PyData) (n : Nat), vs = [.int (n : Nat), v] ∧ Dq W H v d ∧ 1 ≤ n ∧ n ≤ 100 ∧ ∀ b H', Same H H' → (b = true ↔ IsGl n d) → Q (.bl b) H'
theorem ok_aremarks {f : Addr} {fd : FuncData} (F : Fun K "are_marks" "are_marks" sare_marks f fd) (M : Mb mg) (Dis_whole : Df P w K mg base 1 "is_whole" ["value"] (spAsk isNum)) :
    FnOk P w K mg base CX0 2 f fd ["many", "value"] spMk := by
  refine F.ok care_marks (fun vs H Q E h => ?_) (fun cdv A outer s H vs Q E hr h => ?_)
  · obtain ⟨_, v, d, k, rfl, _⟩ := h
    rfl
  · obtain ⟨W, v, d, n, rfl, hd, n1, n9, q⟩ := h
    have hu := hr.units
    refine ⟨_, (pss_cons (ps_if (PW.pt (pw_or (pt_not (pt_val (pe_callB call_isD (by rfl) M.isinstance (by decide +kernel) (pa_cons (pv 1) (pa_cons (pe_bltn (v := .ty "tuple") rfl M.tuple (by decide +kernel) rfl) pa_nil))))) (pw_or1 (pt_cmpR op_ne (pe_callB call_len_seq (by rfl) M.len (by decide +kernel) (pa_cons (pv 1) pa_nil)) (pv 0) (nomark _)))))
 (pss_one (ps_ret pe_bl))
 pss_nil)
 (pss_cons (ps_if (pt_not (pt_val (pe_callB (cr_all rfl) (by rfl) M.all (by decide +kernel) (pa_cons (pe_lc (own := [("mark", 2)]) rfl care_marks.nd (pi_tup (pv 1)) (blkOk_by (own := [("mark", 2)]) (N := nare_marks) (sc := defScope sare_marks) (by decide +kernel)) (fun _ _ _ _ _ => (pg_name (i := 2) care_marks.nd rfl (.inl rfl))) (fun _ _ _ _ _ => pts_nil) (fun _ _ _ _ _ => (pe_and (pe_call Dis_whole.G (hr.mono (by first | decide | omega)) rfl Dis_whole.g Dis_whole.kp Dis_whole.b .nil pass0 (pa_cons (pv 2) pa_nil)) (pe_one (pe_cmpR op_ge (pv 2) pe_int (nomark _)))))) pa_nil))))
 (pss_one (ps_ret pe_bl))
 pss_nil)
 (pss_one (ps_ret (pe_cmpR op_eq (pe_lenSetT (by rfl) M.len (by rfl) M.set (pv 1)) (pe_op op_add (pe_callB (cr_maxT rfl) (by rfl) M.max (by decide +kernel) (pa_cons (pv 1) pa_nil)) pe_int) (nomark _)))))), ?_⟩
    have none' : ∀ {d}, (∀ ds, d ≠ PyData.tuple ds) → ¬ IsGl n d := fun {d} h ⟨g, e, _⟩ => h _ e
    refine ⟨_, rfl, W, v, d, "tuple", _, rfl, hd, kit_tup d, _, rfl, ?_⟩
    cases hd with
    | tup na ea el =>
      rename_i a xs ds
      have hl := el.length
      refine ifF (fun z => nomatch z) ?_
      refine ⟨_, rfl, a, xs, rfl, .inr (.of ea), _, rfl, rfl, _, rfl, ite2 (fun h1 => ?_) (fun h1 => ?_)⟩
      · refine q false H (.refl H) ⟨(fun z => nomatch z), fun ⟨g, e, gl, _⟩ => absurd h1 ?_⟩
        have := congrArg List.length (PyData.tuple.inj e)
        rw [List.length_map, gl] at this
        simp
        omega
      · have ln : xs.length = n := by
          have := h1
          simp at this
          omega
        refine ⟨_, rfl, a, rfl, ⟨xs, .of ea⟩, fun D nD => lc_rel (walk_tup (K := K) (a := a) (xs := xs)) No (fun H i y => ∃ b, y = .bl b ∧ (ds.map isF0)[i]? = some b) (fun _ _ _ _ _ r => r) nD (fun _ z => z.elim) (by omega)
          (fun H' k' => .of (k' _ _ id ea)) ?_ ?_⟩
        · rintro i x H1 _ Q' hi k1 _ ⟨rfl, hx⟩ q'
          obtain ⟨d, hd, dx⟩ := el.at hx
          refine ⟨rfl, _, rfl, W, x, d, rfl, dx.keep (Kp.same (no_same k1)), ?_⟩
          have at' : ∀ b : Bool, b = isF0 d → Q' (.bl b) _ := fun b e => q' _ _ (.refl _) ⟨_, rfl, by rw [List.getElem?_map, hd, e]; rfl⟩
          cases dx with
          | int i =>
            exact ⟨_, rfl, ifT rfl ⟨_, rfl, _, _, rfl, rfl, at' _ rfl⟩⟩
          | _ => exact ⟨_, rfl, ifF (fun z => nomatch z) (at' _ rfl)⟩
        · rintro H1 acc k1 eD hla ha
          have s1 := no_same k1
          refine ⟨D, ds.map isF0, rfl, .of ?_, ?_⟩
          · rw [eD, bls_of (by rw [hla, List.length_map, hl]) ha]
          · have eAll : (ds.map isF0).all id = ds.all isF0 := by
              rw [List.all_map]
              rfl
            rw [eAll]
            cases hA : ds.all isF0 with
            | false =>
              refine ⟨_, rfl, ifT rfl (q false H1 s1 ⟨(fun z => nomatch z), fun ⟨g, e, _, _⟩ => ?_⟩)⟩
              rw [PyData.tuple.inj e, nats_f0] at hA
              cases hA
            | true =>
              obtain ⟨g, rfl⟩ := f0_nats hA
              refine ⟨_, rfl, ifF (fun z => nomatch z) ?_⟩
              dsimp only [tNext]
              obtain rfl := dq_nats el
              have gl : g.length = n := by
                rw [← ln]
                unfold nats
                rw [List.length_map]
              have en : nats g = (g.map fun x : Nat => (x : Int)).map V.int := by
                unfold nats
                rw [List.map_map]
                rfl
              rw [en] at ea
              have g0 : 0 < (g.map fun x : Nat => (x : Int)).length := by
                rw [List.length_map]
                omega
              refine ⟨_, rfl, a, _, rfl, .of (s1 _ _ ea), by rw [List.length_map]; omega, fun out nd ho => ?_⟩
              refine ⟨_, rfl, a, _, rfl, .of (s1 _ _ ea), g0, fun m hm hb => ?_⟩
              refine ⟨_, _, rfl, rfl, ?_⟩
              refine ⟨rfl, q _ H1 s1 ?_⟩
              have key := marks_iff nd ho hm hb
              rw [decide_eq_true_eq]
              constructor
              · intro z
                exact ⟨g, rfl, gl, key.mp (V.int.inj z)⟩
              · intro z
                exact congrArg V.int (key.mpr (isGl_iff.mp z).2)
    | _ => exact ifT rfl (q false H (.refl H) ⟨(fun z => nomatch z), fun z => absurd z (none' fun ds e => by cases e)⟩)
def spGlS : Sp := fun vs H Q _ => ∃ (W : Addr → Prop) (v : V) (d : PyData) (n : Nat), vs = [.int (n : Nat), v] ∧ Dq W H v d ∧ 1 ≤ n ∧ n ≤ 6 ∧ ∀ b H', Same H H' → (b = true ↔ IsGl n d) → Q (.bl b) H'
theorem ok_isglasses {f : Addr} {fd : FuncData} (F : Fun K "is_glasses" "is_glasses" sis_glasses f fd) (M : Mb mg) (Z : Mp K mg) (Dis_whole : Df P w K mg base 1 "is_whole" ["value"] (spAsk isNum)) (Dare_marks : Df P w K mg base 2 "are_marks" ["many", "value"] spMk) :
    FnOk P w K mg base CX0 3 f fd ["many", "value"] spGlS := by
  refine F.ok cis_glasses (fun vs H Q E h => ?_) (fun cdv A outer s H vs Q E hr h => ?_)
  · obtain ⟨_, v, d, k, rfl, _⟩ := h
    rfl
  · obtain ⟨W, v, d, n, rfl, hd, n1, n6, q⟩ := h
    refine ⟨_, (pss_cons (ps_if (PW.pt (pw_or (pt_not (pt_val (pe_call Dis_whole.G (hr.mono (by first | decide | omega)) rfl Dis_whole.g Dis_whole.kp Dis_whole.b .nil pass0 (pa_cons (pv 0) pa_nil)))) (pw_or1 (pt_not (pt_chain op_le op_le pe_int (pv 0) (pe_glob (v := .int 6) rfl Z.most ⟨_, rfl⟩))))))
 (pss_one ps_never)
 pss_nil)
 (pss_one (ps_ret (pe_call Dare_marks.G (hr.mono (by first | decide | omega)) rfl Dare_marks.g Dare_marks.kp Dare_marks.b .nil pass0 (pa_cons (pv 0) (pa_cons (pv 1) pa_nil)))))), ?_⟩
    refine ⟨_, rfl, W, _, .int (n : Nat), rfl, .int (n : Nat), ?_⟩
    refine ⟨_, rfl, ifF (fun z => nomatch z) ?_⟩
    refine ⟨_, rfl, _, _, rfl, rfl, _, rfl, ifT (decide_eq_true (by omega)) ⟨_, _, rfl, rfl, _, rfl, ifF (fun z => ?_) ?_⟩⟩
    · simp at z
      omega
    · exact ⟨_, rfl, _, rfl, W, v, d, n, rfl, hd, n1, by omega, q⟩
end
end Kx
/-! Sighted walks, put together with other glasses. -/
namespace Kx
open PySem PySem.Spec PyProof.Rows L2 Bw
abbrev sis_sighted : Stmt := topS 25
abbrev nis_sighted : List Str := ["value", "walk", "glasses"]
theorem cis_sighted : FnScope nis_sighted ["value"] (defScope sis_sighted) :=
  ⟨rfl, rfl, rfl, by decide +kernel, rfl, by decide +kernel, by decide +kernel⟩

abbrev scheck_sighted : Stmt := topS 26
abbrev ncheck_sighted : List Str := ["sighted"]
theorem ccheck_sighted : FnScope ncheck_sighted ["sighted"] (defScope scheck_sighted) :=
  ⟨rfl, rfl, rfl, by decide +kernel, rfl, by decide +kernel, by decide +kernel⟩

abbrev skeeps_together : Stmt := topS 27
abbrev nkeeps_together : List Str := ["glasses", "own", "pairs"]
theorem ckeeps_together : FnScope nkeeps_together ["glasses", "own"] (defScope skeeps_together) :=
  ⟨rfl, rfl, rfl, by decide +kernel, rfl, by decide +kernel, by decide +kernel⟩

abbrev sput_together : Stmt := topS 28
abbrev nput_together : List Str := ["sighted", "glasses", "walk", "own"]
theorem cput_together : FnScope nput_together ["sighted", "glasses"] (defScope sput_together) :=
  ⟨rfl, rfl, rfl, by decide +kernel, rfl, by decide +kernel, by decide +kernel⟩

def lenD : PyData → Nat
  | .tuple ds => ds.length
  | _ => 0
/-- a sighted walk -/
def IsVw (d : PyData) : Prop := ∃ dw dg, d = .tuple [dw, dg] ∧ IsWalk dw ∧ IsGl (lenD dw) dg
/-- glasses that take all for one that the others take for one -/
def Keeps (g g2 : List Nat) : Prop := ∀ i j, i < g.length → j < g.length → g.getD i 0 = g.getD j 0 → g2.getD i 0 = g2.getD j 0
theorem walk_len {d : PyData} (h : IsWalk d) : 1 ≤ lenD d ∧ lenD d ≤ 6 := by
  obtain ⟨m, rfl, T, _, _⟩ := h
  show 1 ≤ (m.map rowD).length ∧ (m.map rowD).length ≤ 6
  rw [List.length_map]
  exact ⟨T.l1, T.l6⟩
theorem dq_len {W : Addr → Prop} {H : Hp} {v : V} {ds : List PyData} (h : Dq W H v (.tuple ds)) : ∃ a xs, v = .ref a ∧ H a = some (.tup xs) ∧ xs.length = ds.length := by
  obtain ⟨a, xs, rfl, _, ea, el⟩ := h.tupI
  exact ⟨a, xs, rfl, ea, el.length⟩
theorem walk_tup' {d : PyData} (h : IsWalk d) : ∃ ds, d = .tuple ds := by
  obtain ⟨m, rfl, _⟩ := h
  exact ⟨_, rfl⟩
/-- pairs and firsts: as many unlike ones -/
theorem pairs_len {g g2 : List Nat} {o1 : List (List Int)} {o2 : List Int} (l : g2.length = g.length) (k : Keeps g g2) (n1 : o1.Nodup) (n2 : o2.Nodup) (h1 : ∀ x, x ∈ o1 ↔ ∃ i, i < g.length ∧ x = [((g.getD i 0 : Nat) : Int), ((g2.getD i 0 : Nat) : Int)])
    (h2 : ∀ x, x ∈ o2 ↔ ∃ i, i < g.length ∧ x = ((g.getD i 0 : Nat) : Int)) : o1.length = o2.length := by
  have nd : (o1.map fun x => x.headD 0).Nodup := by
    refine List.nodup_iff_pairwise_ne.mpr (List.pairwise_map.mpr ((List.nodup_iff_pairwise_ne.mp n1).imp_of_mem fun {a b} ha hb ne z => ne ?_))
    obtain ⟨i, hi, rfl⟩ := (h1 a).mp ha
    obtain ⟨j, hj, rfl⟩ := (h1 b).mp hb
    have z : ((g.getD i 0 : Nat) : Int) = ((g.getD j 0 : Nat) : Int) := z
    have z' : g.getD i 0 = g.getD j 0 := by omega
    rw [z', k i j hi hj z']
  have s1 := List.Nodup.length_le_of_subset nd (l₂ := o2) fun y hy => by
    obtain ⟨x, hx, rfl⟩ := List.mem_map.mp hy
    obtain ⟨i, hi, rfl⟩ := (h1 x).mp hx
    exact (h2 _).mpr ⟨i, hi, rfl⟩
  have s2 := List.Nodup.length_le_of_subset n2 (l₂ := o1.map fun x => x.headD 0) fun y hy => by
    obtain ⟨i, hi, rfl⟩ := (h2 y).mp hy
    exact List.mem_map.mpr ⟨_, (h1 _).mpr ⟨i, hi, rfl⟩, rfl⟩
  rw [List.length_map] at s1 s2
  omega
section
variable {P : Program} {w : World} {K : PySem.W.Frag} {mg : Str → Option Value} {base : Heap}
def spSi (n : Nat) : Sp := fun vs H Q _ => ∃ (W : Addr → Prop) (v : V) (d : PyData), vs = [v] ∧ Dq W H v d ∧ Bd n d ∧ ∀ b H', Same H H' → (b = true ↔ IsVw d) → Q (.bl b) H'
theorem ok_issight {f : Addr} {fd : FuncData} {n : Nat} (F : Fun K "is_sighted" "is_sighted" sis_sighted f fd) (M : Mb mg) (Dis_walk : Df P w K mg base 6 "is_walk" ["value"] (spWalk n)) (Dare_marks : Df P w K mg base 2 "are_marks" ["many", "value"] spMk) :
    FnOk P w K mg base CX0 7 f fd ["value"] (spSi n) := by
  refine F.ok cis_sighted (fun vs H Q E h => ?_) (fun cdv A outer s H vs Q E hr h => ?_)
  · obtain ⟨_, v, d, rfl, _⟩ := h
    rfl
  · obtain ⟨W, v, d, rfl, hd, hb, q⟩ := h
    refine ⟨_, (pss_cons (ps_if (PW.pt (pw_or (pt_not (pt_val (pe_callB call_isD (by rfl) M.isinstance (by decide +kernel) (pa_cons (pv 0) (pa_cons (pe_bltn (v := .ty "tuple") rfl M.tuple (by decide +kernel) rfl) pa_nil))))) (pw_or1 (pt_cmpR op_ne (pe_callB call_len_seq (by rfl) M.len (by decide +kernel) (pa_cons (pv 0) pa_nil)) pe_int (nomark _)))))
 (pss_one (ps_ret pe_bl))
 pss_nil)
 (pss_cons (ps_asg (pv 0) (pg_tup rfl (pgs_cons (pg_name (i := 1) cis_sighted.nd rfl (.inl rfl)) (pgs_cons (pg_name (i := 2) cis_sighted.nd rfl (.inl rfl)) pgs_nil))))
 (pss_one (ps_ret (pe_and (pe_call Dis_walk.G (hr.mono (by first | decide | omega)) rfl Dis_walk.g Dis_walk.kp Dis_walk.b .nil pass0 (pa_cons (pv 1) pa_nil)) (pe_one (pe_call Dare_marks.G (hr.mono (by first | decide | omega)) rfl Dare_marks.g Dare_marks.kp Dare_marks.b .nil pass0 (pa_cons (pe_callB call_len_seq (by rfl) M.len (by decide +kernel) (pa_cons (pv 1) pa_nil)) (pa_cons (pv 2) pa_nil))))))))), ?_⟩
    refine ⟨_, rfl, W, v, d, "tuple", _, rfl, hd, kit_tup d, _, rfl, ?_⟩
    cases hd with
    | tup na ea el =>
      rename_i a xs ds
      have hl := el.length
      refine ifF (fun z => nomatch z) ?_
      refine ⟨_, rfl, a, xs, rfl, .inr (.of ea), rfl, _, rfl, ite2 (fun h1 => ?_) (fun h1 => ?_)⟩
      · refine q false H (.refl H) ⟨(fun z => nomatch z), fun ⟨dw, dg, e, _⟩ => absurd h1 ?_⟩
        obtain rfl := PyData.tuple.inj e
        have hl : xs.length = 2 := hl
        rw [hl]
        decide
      · have ln : xs.length = 2 := by
          have := h1
          simp at this
          omega
        match xs, ds, ln, el with
        | [x, y], [dw, dg], _, .cons dx (.cons dy .nil) =>
          dsimp only [tNext]
          refine ⟨_, rfl, a, [x, y], rfl, .of ea, rfl, ?_⟩
          have bw : Bd n dw := bdAll_iff.mp hb dw (by simp)
          refine ⟨_, _, rfl, _, _, rfl, rfl, _, rfl, W, x, dw, rfl, dx, bw, fun H1 b1 s1 h1 => ⟨_, rfl, ite2 (fun c => ?_) (fun c => ?_)⟩⟩
          · have iw := h1.mp c
            obtain ⟨ds, rfl⟩ := walk_tup' iw
            obtain ⟨c2, zs, rfl, ec, zl⟩ := dq_len (dx.keep (Kp.same s1))
            obtain ⟨l1, l6⟩ := walk_len iw
            refine ⟨_, rfl, c2, zs, rfl, .inr (.of ec), _, rfl, W, y, dg, ds.length, by rw [← zl]; rfl, dy.keep (Kp.same s1), l1, by have : ds.length ≤ 6 := l6; omega, fun b H2 s2 h2 => q b H2 (s1.trans s2) ?_⟩
            rw [h2]
            constructor
            · exact fun h => ⟨_, _, rfl, iw, h⟩
            · rintro ⟨dw', dg', e, _, h⟩
              cases PyData.tuple.inj e
              exact h
          · refine q false H1 s1 ⟨(fun z => nomatch z), fun ⟨dw', dg', e, h, _⟩ => absurd (h1.mpr ?_) c⟩
            cases PyData.tuple.inj e
            exact h
    | _ => exact ifT rfl (q false H (.refl H) ⟨(fun z => nomatch z), fun ⟨_, _, e, _⟩ => nomatch e⟩)
def spChS (n : Nat) : Sp := fun vs H Q _ => ∃ (W : Addr → Prop) (v : V) (d : PyData), vs = [v] ∧ Dq W H v d ∧ Bd n d ∧ IsVw d ∧ ∀ H', Same H H' → Q .non H'
theorem ok_chs {f : Addr} {fd : FuncData} {n : Nat} (F : Fun K "check_sighted" "check_sighted" scheck_sighted f fd) (M : Mb mg) (Dis_sighted : Df P w K mg base 7 "is_sighted" ["value"] (spSi n)) :
    FnOk P w K mg base CX0 8 f fd ["sighted"] (spChS n) := by
  refine F.ok ccheck_sighted (fun vs H Q E h => ?_) (fun cdv A outer s H vs Q E hr h => ?_)
  · obtain ⟨_, v, d, rfl, _⟩ := h
    rfl
  · obtain ⟨W, v, d, rfl, hd, hb, hv, q⟩ := h
    refine ⟨_, (pss_one (ps_if (pt_not (pt_val (pe_call Dis_sighted.G (hr.mono (by first | decide | omega)) rfl Dis_sighted.g Dis_sighted.kp Dis_sighted.b .nil pass0 (pa_cons (pv 0) pa_nil))))
 (pss_one ps_never)
 pss_nil)), ?_⟩
    refine ⟨_, rfl, W, v, d, rfl, hd, hb, fun b H1 s1 h1 => ?_⟩
    rw [h1.mpr hv]
    exact ⟨_, rfl, ifF (fun z => nomatch z) (q H1 s1)⟩
def spKT (K : PySem.W.Frag) : Sp := fun vs H Q _ => ∃ (a b : Addr) (g g2 : List Nat), vs = [.ref b, .ref a] ∧ SqT K H a (nats g) ∧ SqT K H b (nats g2) ∧ g2.length = g.length ∧ g.length ≤ 60 ∧ Keeps g g2 ∧ ∀ H', Same H H' → Q (.bl true) H'
theorem ok_kt {f : Addr} {fd : FuncData} (F : Fun K "keeps_together" "keeps_together" skeeps_together f fd) (M : Mb mg) :
    FnOk P w K mg base CX0 1 f fd ["glasses", "own"] (spKT K) := by
  refine F.ok ckeeps_together (fun vs H Q E h => ?_) (fun cdv A outer s H vs Q E hr h => ?_)
  · obtain ⟨_, _, _, _, rfl, _⟩ := h
    rfl
  · obtain ⟨a, b, g, g2, rfl, qa, qb, lg, l6, kp, q⟩ := h
    have hu1 := hr.units
    refine ⟨_, (pss_cons (ps_set (i := 2) ckeeps_together.nd rfl (.inl rfl) (Bt.pe_listZip rfl (by rfl) M.list (by rfl) M.zip (pa_cons (pv 1) (pa_cons (pv 0) pa_nil))))
 (pss_one (ps_ret (pe_cmpR op_eq (pe_lenSetP (by exact hu1) (by rfl) M.len (by rfl) M.set (pv 2)) (pe_lenSetT (by rfl) M.len (by rfl) M.set (pv 1)) (nomark _))))), ?_⟩
    have ln : (nats g).length = g.length := by
      unfold nats
      rw [List.length_map]
    have ln2 : (nats g2).length = g.length := by
      unfold nats
      rw [List.length_map, lg]
    refine ⟨_, rfl, _, rfl, a, b, nats g, nats g2, rfl, qa, qb, by omega, by omega, fun t ts H2 s2 nt et tl te => ?_⟩
    refine ⟨_, rfl, t, (List.range g.length).map fun j => (ts.getD j t, [((g.getD j 0 : Nat) : Int), ((g2.getD j 0 : Nat) : Int)]), rfl, .of ?_, fun p hp => ?_, by rw [List.length_map, List.length_range]; omega, fun o1 n1 h1 => ?_⟩
    · rw [et]
      refine congrArg (fun z => some (HO.lst z)) ?_
      rw [List.map_map]
      refine List.ext_getElem? fun j => ?_
      by_cases hj : j < g.length
      · rw [List.getElem?_map, List.getElem?_map, List.getElem?_range hj, List.getElem?_eq_getElem (by omega)]
        show some (V.ref ts[j]) = some (V.ref (ts.getD j t))
        rw [List.getD_eq_getElem?_getD, List.getElem?_eq_getElem (by omega)]
        rfl
      · rw [List.getElem?_eq_none (by rw [List.length_map]; omega), List.getElem?_eq_none (by rw [List.length_map, List.length_range]; omega)]
    · obtain ⟨j, hj, rfl⟩ := List.mem_map.mp hp
      have hj := List.mem_range.mp hj
      have e1 : ts[j]? = some (ts.getD j t) := by
        rw [List.getD_eq_getElem?_getD, List.getElem?_eq_getElem (by omega)]
        rfl
      have nat_at : ∀ g : List Nat, j < g.length → (nats g)[j]? = some (.int (g.getD j 0 : Nat)) := fun g h => by
        unfold nats
        rw [List.getElem?_map, List.getD_eq_getElem?_getD, List.getElem?_eq_getElem h]
        rfl
      exact .of (te j _ _ _ e1 (nat_at g hj) (nat_at g2 (by omega))).2
    · have en : nats g = (g.map fun x : Nat => (x : Int)).map V.int := by
        unfold nats
        rw [List.map_map]
        rfl
      rw [en] at qa
      refine ⟨_, rfl, a, _, rfl, Bw.same_tup s2 qa, by rw [List.length_map]; omega, fun o2 n2 h2 => ⟨rfl, ?_⟩⟩
      have key := pairs_len lg kp n1 n2 (fun x => by
        rw [h1, List.map_map, List.mem_map]
        constructor
        · rintro ⟨i, hi, rfl⟩
          exact ⟨i, List.mem_range.mp hi, rfl⟩
        · rintro ⟨i, hi, rfl⟩
          exact ⟨i, List.mem_range.mpr hi, rfl⟩) (fun x => by
        rw [h2, List.mem_map]
        constructor
        · rintro ⟨y, hy, rfl⟩
          obtain ⟨i, hi⟩ := List.mem_iff_getElem?.mp hy
          have hl := (List.getElem?_eq_some_iff.mp hi).1
          refine ⟨i, hl, ?_⟩
          rw [List.getD_eq_getElem?_getD, hi]
          rfl
        · rintro ⟨i, hi, rfl⟩
          refine ⟨_, ?_, rfl⟩
          rw [List.getD_eq_getElem?_getD, List.getElem?_eq_getElem hi]
          exact List.getElem_mem hi)
      rw [key, decide_eq_true rfl]
      exact q H2 s2
/-- glasses put in the place of others -/
def spPu (n : Nat) : Sp := fun vs H Q _ => ∃ (W : Addr → Prop) (v u : V) (dw : PyData) (g g2 : List Nat), vs = [v, u] ∧ Dq W H v (.tuple [dw, natsD g]) ∧ Dq W H u (natsD g2) ∧ Bd n (.tuple [dw, natsD g]) ∧ IsVw (.tuple [dw, natsD g]) ∧ IsGl (lenD dw) (natsD g2) ∧ Keeps g g2 ∧
  ∀ v' H', Same H H' → Dq No H' v' (.tuple [dw, natsD g2]) → Q v' H'
theorem ok_put {f : Addr} {fd : FuncData} {n : Nat} (F : Fun K "put_together" "put_together" sput_together f fd) (M : Mb mg) (Dcheck_sighted : Df P w K mg base 8 "check_sighted" ["sighted"] (spChS n)) (Dare_marks : Df P w K mg base 2 "are_marks" ["many", "value"] spMk)
    (Dkeeps_together : Df P w K mg base 1 "keeps_together" ["glasses", "own"] (spKT K)) :
    FnOk P w K mg base CX0 9 f fd ["sighted", "glasses"] (spPu n) := by
  refine F.ok cput_together (fun vs H Q E h => ?_) (fun cdv A outer s H vs Q E hr h => ?_)
  · obtain ⟨_, _, _, _, _, _, rfl, _⟩ := h
    rfl
  · obtain ⟨W, v, u, dw, g, g2, rfl, hd, hg, hb, hv, hg2, kp, q⟩ := h
    refine ⟨_, (pss_cons (ps_expr (pe_call Dcheck_sighted.G (hr.mono (by first | decide | omega)) rfl Dcheck_sighted.g Dcheck_sighted.kp Dcheck_sighted.b .nil pass0 (pa_cons (pv 0) pa_nil)))
 (pss_cons (ps_asg (pv 0) (pg_tup rfl (pgs_cons (pg_name (i := 2) cput_together.nd rfl (.inl rfl)) (pgs_cons (pg_name (i := 3) cput_together.nd rfl (.inl rfl)) pgs_nil))))
 (pss_cons (ps_if (PW.pt (pw_or (pt_not (pt_val (pe_call Dare_marks.G (hr.mono (by first | decide | omega)) rfl Dare_marks.g Dare_marks.kp Dare_marks.b .nil pass0 (pa_cons (pe_callB call_len_seq (by rfl) M.len (by decide +kernel) (pa_cons (pv 2) pa_nil)) (pa_cons (pv 1) pa_nil))))) (pw_or1 (pt_not (pt_val (pe_call Dkeeps_together.G (hr.mono (by first | decide | omega)) rfl Dkeeps_together.g Dkeeps_together.kp Dkeeps_together.b .nil pass0 (pa_cons (pv 1) (pa_cons (pv 3) pa_nil))))))))
 (pss_one ps_never)
 pss_nil)
 (pss_one (ps_ret (pe_tup (pa_cons (pv 2) (pa_cons (pv 1) pa_nil)))))))), ?_⟩
    refine ⟨_, rfl, W, v, _, rfl, hd, hb, hv, fun H1 s1 => ?_⟩
    obtain ⟨dw', dg', e, iw, ig⟩ := hv
    cases PyData.tuple.inj e
    obtain ⟨ds, rfl⟩ := walk_tup' iw
    obtain ⟨l1, l6⟩ := walk_len iw
    have gl := (isGl_iff.mp ig).1
    have g2l := (isGl_iff.mp hg2).1
    have hd1 := hd.keep (Kp.same s1)
    have hg1 := hg.keep (Kp.same s1)
    obtain ⟨a, xs, rfl, na, ea, el⟩ := hd1.tupI
    match xs, el with
    | [x, y], .cons dx (.cons dy .nil) =>
      refine ⟨_, rfl, a, [x, y], rfl, .of ea, rfl, ?_⟩
      obtain ⟨c, zs, rfl, ec, zl⟩ := dq_len dx
      refine ⟨_, _, rfl, _, _, rfl, rfl, _, rfl, c, zs, rfl, .inr (.of ec), _, rfl, W, u, natsD g2, ds.length, by rw [← zl]; rfl, hg1, l1, by have : ds.length ≤ 6 := l6; omega, fun b H2 s2 h2 => ?_⟩
      rw [h2.mpr hg2]
      obtain ⟨c1, zs1, rfl, nc1, ec1, el1⟩ := dy.tupI
      obtain ⟨c2, zs2, rfl, nc2, ec2, el2⟩ := hg1.tupI
      obtain rfl := dq_nats el1
      obtain rfl := dq_nats el2
      have g6 : g.length ≤ 6 := by
        rw [gl]
        exact l6
      refine ⟨_, rfl, ifF (fun z => nomatch z) ⟨_, rfl, _, rfl, c1, c2, g, g2, rfl, .of (s2 _ _ ec1), .of (s2 _ _ ec2), by rw [g2l, gl], by omega, kp, fun H3 s3 => ?_⟩⟩
      refine ⟨_, rfl, ifF (fun z => nomatch z) ?_⟩
      dsimp only [tNext]
      refine ⟨_, rfl, _, rfl, sz63 (by show 2 ≤ 1000; decide), fun p np => ?_⟩
      have s13 : Same H1 H3 := s2.trans s3
      have nn := same_new (o := .tup [.ref c, .ref c2]) np
      refine q _ _ (s1.trans (s13.trans nn)) ?_
      have k1 : Kp W H1 (upd H3 p (.tup [.ref c, .ref c2])) := Kp.same (s13.trans nn)
      exact .tup (fun z => z) upd_same (.cons ((dx.keep k1).weak (fun _ z => z.elim)) (.cons ((hg1.keep k1).weak (fun _ z => z.elim)) .nil))
end
end Kx
/-! The law looks at walks and glasses itself (second family). -/
namespace Kx
open PySem PySem.Spec PyProof.Rows L2 Bw
abbrev s_law_is_whole : Stmt := topS 55
abbrev n_law_is_whole : List Str := ["thing", "each", "x", "at"]
theorem c_law_is_whole : FnScope n_law_is_whole ["thing"] (defScope s_law_is_whole) :=
  ⟨rfl, rfl, rfl, by decide +kernel, rfl, by decide +kernel, by decide +kernel⟩

abbrev s_law_is_walk : Stmt := topS 56
abbrev n_law_is_walk : List Str := ["thing", "each"]
theorem c_law_is_walk : FnScope n_law_is_walk ["thing"] (defScope s_law_is_walk) :=
  ⟨rfl, rfl, rfl, by decide +kernel, rfl, by decide +kernel, by decide +kernel⟩

/-- a whole table -/
def IsWhQ (d : PyData) : Prop := ∃ n F, 1 ≤ n ∧ n ≤ 6 ∧ d = tabD (tabF n F) ∧ (∀ i j, i < n → j < n → 0 ≤ F i j) ∧ ∀ a b, a < n → b < n → Reach (EdQ n F) a b
theorem tab_inj {n : Nat} {F G : Nat → Nat → Rat} (h : tabD (tabF n F) = tabD (tabF n G)) : ∀ i j, i < n → j < n → F i j = G i j := fun i j hi hj => by
  have e := PyData.tuple.inj h
  have e1 : ((tabF n F).map rowD)[i]? = ((tabF n G).map rowD)[i]? := by rw [e]
  unfold tabF at e1
  rw [List.getElem?_map, List.getElem?_map, List.getElem?_map, List.getElem?_map, List.getElem?_range hi] at e1
  have e2 := PyData.tuple.inj (Option.some.inj e1)
  have e3 : (((List.range n).map fun j => F i j).map frD)[j]? = (((List.range n).map fun j => G i j).map frD)[j]? := by rw [e2]
  rw [List.getElem?_map, List.getElem?_map, List.getElem?_map, List.getElem?_map, List.getElem?_range hj] at e3
  exact frD_inj (Option.some.inj e3)
theorem tab_len {n m : Nat} {F G : Nat → Nat → Rat} (h : tabD (tabF n F) = tabD (tabF m G)) : n = m := by
  have e := congrArg List.length (PyData.tuple.inj h)
  unfold tabF at e
  simpa using e
theorem isWhQ_iff {n : Nat} {F : Nat → Nat → Rat} (n1 : 1 ≤ n) (n6 : n ≤ 6) : IsWhQ (tabD (tabF n F)) ↔ (∀ i j, i < n → j < n → 0 ≤ F i j) ∧ ∀ a b, a < n → b < n → Reach (EdQ n F) a b := by
  constructor
  · rintro ⟨m, G, m1, m6, e, h1, h2⟩
    obtain rfl := tab_len e
    have eq := tab_inj e
    refine ⟨fun i j hi hj => by rw [eq i j hi hj]; exact h1 i j hi hj, fun a b ha hb => (h2 a b ha hb).mono fun x y g => ⟨g.1, g.2.1, by rw [eq x y g.1 g.2.1]; exact g.2.2⟩⟩
  · exact fun h => ⟨n, F, n1, n6, rfl, h.1, h.2⟩
theorem tabF_row {n i : Nat} {F : Nat → Nat → Rat} (hi : i < n) : (tabF n F)[i]? = some ((List.range n).map (F i)) := by
  unfold tabF
  rw [List.getElem?_map, List.getElem?_range hi]
  rfl
theorem tabF_len {n : Nat} {F : Nat → Nat → Rat} : (tabF n F).length = n := by
  unfold tabF
  rw [List.length_map, List.length_range]
theorem row_q {n j : Nat} {f : Nat → Rat} {q : Rat} (h : ((List.range n).map f)[j]? = some q) : j < n ∧ q = f j := by
  have hj := (List.getElem?_eq_some_iff.mp h).1
  rw [List.length_map, List.length_range] at hj
  rw [List.getElem?_map, List.getElem?_range hj] at h
  exact ⟨hj, (Option.some.inj h).symm⟩
theorem mem_tabF {n : Nat} {F : Nat → Nat → Rat} {r : List Rat} : r ∈ tabF n F ↔ ∃ i, i < n ∧ r = (List.range n).map (F i) := by
  unfold tabF
  rw [List.mem_map]
  exact ⟨fun ⟨i, hi, e⟩ => ⟨i, List.mem_range.mp hi, e.symm⟩, fun ⟨i, hi, e⟩ => ⟨i, List.mem_range.mpr hi, e.symm⟩⟩
theorem ed_tabF {n : Nat} {F : Nat → Nat → Rat} {x y : Nat} : Ed (tabF n F) x y ↔ EdQ n F x y := by
  constructor
  · rintro ⟨r, q, h1, h2, h3⟩
    have hx := (List.getElem?_eq_some_iff.mp h1).1
    rw [tabF_len] at hx
    rw [tabF_row hx] at h1
    obtain rfl := Option.some.inj h1
    obtain ⟨hy, rfl⟩ := row_q h2
    exact ⟨hx, hy, h3⟩
  · rintro ⟨hx, hy, h⟩
    exact ⟨_, _, tabF_row hx, by rw [List.getElem?_map, List.getElem?_range hy]; rfl, h⟩
/-- a walk is a whole table whose rows sum up to 1 -/
theorem isWalk_iff {n : Nat} {F : Nat → Nat → Rat} (n1 : 1 ≤ n) (n6 : n ≤ 6) : IsWalk (tabD (tabF n F)) ↔ IsWhQ (tabD (tabF n F)) ∧ ∀ i, i < n → Bq.sumQ ((List.range n).map (F i)) = 1 := by
  rw [isWhQ_iff n1 n6]
  constructor
  · rintro ⟨m, e, T, S, u⟩
    have em : tabF n F = m := by
      have e1 := PyData.tuple.inj e
      refine List.ext_getElem? fun i => ?_
      have e2 : ((tabF n F).map rowD)[i]? = (m.map rowD)[i]? := by rw [e1]
      rw [List.getElem?_map, List.getElem?_map] at e2
      cases h1 : (tabF n F)[i]? with
      | none =>
        cases h2 : m[i]? with
        | none => rfl
        | some y =>
          rw [h1, h2] at e2
          cases e2
      | some x =>
        cases h2 : m[i]? with
        | none =>
          rw [h1, h2] at e2
          cases e2
        | some y =>
          rw [h1, h2] at e2
          have e3 := PyData.tuple.inj (Option.some.inj e2)
          have inj : ∀ {a b : List Rat}, a.map frD = b.map frD → a = b := fun {a b} h => by
            induction a generalizing b with
            | nil =>
              cases b with
              | nil => rfl
              | cons _ _ => cases h
            | cons p a ih =>
              cases b with
              | nil => cases h
              | cons q b =>
                rw [List.map_cons, List.map_cons] at h
                have := List.cons.inj h
                rw [frD_inj this.1, ih this.2]
          rw [inj e3]
    subst em
    refine ⟨⟨fun i j hi hj => T.nil _ (mem_tabF.mpr ⟨i, hi, rfl⟩) _ (List.mem_map.mpr ⟨j, List.mem_range.mpr hj, rfl⟩), fun a b ha hb => ?_⟩, fun i hi => u _ (mem_tabF.mpr ⟨i, hi, rfl⟩)⟩
    exact (S a b (by rw [tabF_len]; exact ha) (by rw [tabF_len]; exact hb)).mono fun x y g => ed_tabF.mp g
  · rintro ⟨⟨h1, h2⟩, h3⟩
    refine ⟨tabF n F, rfl, ⟨by rw [tabF_len]; exact n1, by rw [tabF_len]; exact n6, fun r hr => ?_, fun r hr q hq => ?_⟩, fun a b ha hb => ?_, fun r hr => ?_⟩
    · obtain ⟨i, hi, rfl⟩ := mem_tabF.mp hr
      rw [tabF_len, List.length_map, List.length_range]
    · obtain ⟨i, hi, rfl⟩ := mem_tabF.mp hr
      obtain ⟨j, hj, rfl⟩ := List.mem_map.mp hq
      exact h1 i j hi (List.mem_range.mp hj)
    · rw [tabF_len] at ha hb
      exact (h2 a b ha hb).mono fun x y g => ed_tabF.mpr g
    · obtain ⟨i, hi, rfl⟩ := mem_tabF.mp hr
      exact h3 i hi
theorem isWalk_sq {d : PyData} (h : IsWalk d) : isSqQ d = true := by
  obtain ⟨m, rfl, T, _, _⟩ := h
  refine isSqQ_iff.mpr ⟨m.length, fun i j => (m.getD i []).getD j 0, T.l1, T.l6, ?_⟩
  congr 1
  refine List.ext_getElem? fun i => ?_
  by_cases hi : i < m.length
  · rw [tabF_row hi, List.getElem?_eq_getElem hi]
    congr 1
    have hr := T.rows _ (List.getElem_mem hi)
    refine List.ext_getElem? fun j => ?_
    by_cases hj : j < m.length
    · rw [List.getElem?_map, List.getElem?_range hj, List.getElem?_eq_getElem (by omega)]
      show some _ = some ((m.getD i []).getD j 0)
      congr 1
      rw [List.getD_eq_getElem?_getD, List.getD_eq_getElem?_getD, List.getElem?_eq_getElem hi]
      show _ = (m[i])[j]?.getD 0
      rw [List.getElem?_eq_getElem (by omega)]
      rfl
    · rw [List.getElem?_eq_none (by omega), List.getElem?_eq_none (by rw [List.length_map, List.length_range]; omega)]
  · rw [List.getElem?_eq_none (by omega), List.getElem?_eq_none (by rw [tabF_len]; omega)]
section
variable {P : Program} {w : World} {K : PySem.W.Frag} {mg : Str → Option Value} {base : Heap}
def spLWh : Sp := fun vs H Q _ => ∃ (W : Addr → Prop) (v : V) (d : PyData), vs = [v] ∧ Dq W H v d ∧ Bd 300 d ∧ ∀ b H', Same H H' → (b = true ↔ IsWhQ d) → Q (.bl b) H'
theorem ok_lwhole {f : Addr} {fd : FuncData} (F : Fun K "_law_is_whole" "_law_is_whole" s_law_is_whole f fd) (M : Mb mg) (Dlaw_is_square : Df P w K mg base 4 "_law_is_square" ["thing"] spSq) (Dlaw_reached : Df P w K mg base 1 "_law_reached" ["square", "here"] spReached) :
    FnOk P w K mg base CX0 5 f fd ["thing"] spLWh := by
  refine F.ok c_law_is_whole (fun vs H Q E h => ?_) (fun cdv A outer s H vs Q E hr h => ?_)
  · obtain ⟨_, v, d, rfl, _⟩ := h
    rfl
  · obtain ⟨W, v, d, rfl, hd, bd, q⟩ := h
    have hu := hr.units
    refine ⟨_, (pss_cons (ps_if (pt_not (pt_val (pe_call Dlaw_is_square.G (hr.mono (by first | decide | omega)) rfl Dlaw_is_square.g Dlaw_is_square.kp Dlaw_is_square.b .nil pass0 (pa_cons (pv 0) pa_nil))))
 (pss_one (ps_ret pe_bl))
 pss_nil)
 (pss_cons (ps_for PassesOwn.never rfl (pi_tup (pv 0)) (pg_name (i := 1) c_law_is_whole.nd rfl (.inl rfl))
 (pss_one (ps_if (pt_cmpR (op_neNil hu) (pe_lc (own := [("x", 2)]) rfl c_law_is_whole.nd (pi_tup (pv 1)) (blkOk_by (own := [("x", 2)]) (N := n_law_is_whole) (sc := defScope s_law_is_whole) (by decide +kernel)) (fun _ _ _ _ _ => (pg_name (i := 2) c_law_is_whole.nd rfl (.inl rfl))) (fun _ _ _ _ _ => (pts_one (pt_cmpR op_lt (pe_ix (ix_tupK (K := K) rfl) (pv 2) pe_int (fun _ _ => rfl)) pe_int (nomark _)))) (fun _ _ _ _ _ => (pv 2))) (pe_lst pa_nil) (nomark _))
 (pss_one (ps_ret pe_bl))
 pss_nil)))
 (pss_one (ps_ret (pe_cmpR (op_eqNil hu) (pe_lc (own := [("at", 3)]) rfl c_law_is_whole.nd (pi_range1 (by rfl) M.range (pa_cons (pe_callB call_len_seq (by rfl) M.len (by decide +kernel) (pa_cons (pv 0) pa_nil)) pa_nil)) (blkOk_by (own := [("at", 3)]) (N := n_law_is_whole) (sc := defScope s_law_is_whole) (by decide +kernel)) (fun _ _ _ _ _ => (pg_name (i := 3) c_law_is_whole.nd rfl (.inl rfl))) (fun _ _ _ _ _ => (pts_one (pt_cmpR op_lt (pe_callB (id := "len") (call_lenK (K := K) rfl) (by rfl) M.len (by decide +kernel) (pa_cons (pe_call Dlaw_reached.G (hr.mono (by first | decide | omega)) rfl Dlaw_reached.g Dlaw_reached.kp Dlaw_reached.b .nil pass0 (pa_cons (pv 0) (pa_cons (pv 3) pa_nil))) pa_nil)) (pe_callB (id := "len") (call_lenK (K := K) rfl) (by rfl) M.len (by decide +kernel) (pa_cons (pv 0) pa_nil)) (nomark _)))) (fun _ _ _ _ _ => (pv 3))) (pe_lst pa_nil) (nomark _)))))), ?_⟩
    refine ⟨_, rfl, W, v, d, rfl, hd, bd, fun H1 s1 => ⟨_, rfl, ite2 (fun c0 => ?_) (fun c0 => ?_)⟩⟩
    · refine q false H1 s1 ⟨(fun z => nomatch z), fun ⟨n, G, n1, n6, e, _⟩ => ?_⟩
      rw [isSqQ_iff.mpr ⟨n, G, n1, n6, e⟩] at c0
      cases c0
    · have sq : isSqQ d = true := by
        cases h : isSqQ d with
        | true => rfl
        | false =>
          rw [h] at c0
          exact absurd rfl c0
      obtain ⟨n, G, n1, n6, rfl⟩ := isSqQ_iff.mp sq
      clear c0 sq
      have hd1 := hd.keep (Kp.same s1)
      obtain ⟨a, xs, rfl, na, ea, el⟩ := hd1.tupI
      unfold tabF at el
      have xl : xs.length = n := by
        have := el.length
        simpa using this
      have rat : ∀ {i : Nat}, i < n → ∃ c zz, xs[i]? = some (.ref c) ∧ H1 c = some (.tup zz) ∧ zz.length = n ∧ ∀ j, j < n → ∃ p, zz[j]? = some (.ref p) ∧ H1 p = some (.tup [.int (G i j).num, .int (G i j).den]) := fun {i} hin => by
        have e1 : xs[i]? = some (xs[i]'(by omega)) := List.getElem?_eq_getElem (by omega)
        obtain ⟨_, dy⟩ := tab_at el e1
        obtain ⟨c, zz, ec1, nc, ec, ez⟩ := dy.tupI
        rw [ec1] at e1
        have zl : zz.length = n := by
          have := ez.length
          simpa using this
        refine ⟨c, zz, e1, ec, zl, fun j hj => ?_⟩
        have e2 : zz[j]? = some (zz[j]'(by omega)) := List.getElem?_eq_getElem (by omega)
        have dp := (row_at ez e2).2
        generalize zz[j]'(by omega) = v at e2 dp
        obtain ⟨p, rfl, hp⟩ := dq_frA dp
        exact ⟨p, e2, hp⟩
      have bad : ¬ IsWhQ (tabD (tabF n G)) → ∀ H', Same H1 H' → Q (.bl false) H' := fun h H' s => q false H' (s1.trans s) ⟨(fun z => nomatch z), fun z => absurd z h⟩
      -- none below 0
      dsimp only [tNext]
      refine seq_cut (fun σ H' => ∃ y1 y2 y3, σ = [some (.ref a), y1, y2, y3] ∧ Same H1 H' ∧ ∀ i j, i < n → j < n → 0 ≤ G i j) ?_ ?_
      rotate_left
      · intro N' hN
        refine ⟨_, rfl, a, rfl, ⟨xs, .of ea⟩, ?_⟩
        refine for_it (walk_tup (K := K) (a := a) (xs := xs)) (fun i σ H' => ∃ y1 y2 y3, σ = [some (.ref a), y1, y2, y3] ∧ Same H1 H' ∧ ∀ x j, x < i → j < n → 0 ≤ G x j) ⟨_, _, _, rfl, .refl _, fun x j hx => absurd hx (Nat.not_lt_zero x)⟩ (fun i σ H' _ ⟨_, _, _, _, s1, _⟩ => .of (s1 _ _ ea)) ?_ ?_
        · rintro i x σ _ H2 hi ⟨y1, y2, y3, rfl, s2, dn⟩ ⟨rfl, hx⟩
          have hin : i < n := by omega
          obtain ⟨c, zz, ei, ec, zl, ezz⟩ := rat hin
          rw [ei] at hx
          obtain rfl := Option.some.inj hx
          refine ⟨_, rfl, c, rfl, ⟨zz, .of (s2 _ _ ec)⟩, fun D nD => lc_filt (walk_tup (K := K) (a := c) (xs := zz)) (fun j => G i j < 0) nD (by omega) (fun x _ => rfl) (fun x => rfl)
            (fun H' s' => .of (s' _ _ (s2 _ _ ec))) (fun i H' x H'' _ _ y => y.1) ?_ ?_⟩
          · rintro j y H3 T hj s3 _ ⟨_, hy⟩ t
            rw [zl] at hj
            obtain ⟨p, ep, hp⟩ := ezz j hj
            rw [ep] at hy
            obtain rfl := Option.some.inj hy
            refine ⟨_, rfl, p, _, 0, _, rfl, rfl, .of ((s2.trans s3) _ _ hp), rfl, _, _, rfl, rfl, _, rfl, t _ H3 ?_ (.refl _)⟩
            have nb : (G i j).num < 0 ↔ G i j < 0 := by
              have := Bq.num_nonneg (q := G i j)
              constructor
              · intro z
                refine Classical.byContradiction fun y => ?_
                have : 0 ≤ G i j := by grind
                have := Bq.num_nonneg.mpr this
                omega
              · intro z
                refine Classical.byContradiction fun y => ?_
                have := Bq.num_nonneg.mp (show 0 ≤ (G i j).num by omega)
                grind
            exact ⟨fun z => nb.mp (of_decide_eq_true z), fun z => decide_eq_true (nb.mpr z)⟩
          · rintro H3 acc s3 eD hacc
            refine ⟨Nat.zero_le _, fun b nb => ?_⟩
            have s4 : Same H1 (upd H3 b (.lst [])) := s2.trans (s3.trans (same_new nb))
            refine ⟨D, b, acc, rfl, rfl, .of (same_new nb _ _ eD), .of upd_same, _, rfl, ite2 (fun c1 => ?_) (fun c1 => ?_)⟩
            · refine bad (fun z => ?_) _ s4
              have h0 := ((isWhQ_iff n1 n6).mp z).1
              have : acc = [] := hacc.mpr fun j hj y => by
                have := h0 i j hin (by omega)
                grind
              rw [this] at c1
              simp at c1
            · have e : acc = [] := by
                cases acc with
                | nil => rfl
                | cons x t => simp at c1
              refine ⟨_, _, _, rfl, s4, fun x j hx hj => ?_⟩
              by_cases z : x = i
              · rw [z]
                have := hacc.mp e j (by omega)
                grind
              · exact dn x j (by omega) hj
        · rintro σ H2 ⟨y1, y2, y3, rfl, s2, dn⟩
          exact hN _ _ ⟨_, _, _, rfl, s2, fun i j hi hj => dn i j (by omega) hj⟩
      rintro σ H2 ⟨y1, y2, y3, rfl, s2, nn⟩
      have ea2 := s2 _ _ ea
      refine ⟨_, rfl, a, xs, rfl, .inr (.of ea2), _, rfl, by omega, by omega, fun D nD => ?_⟩
      rw [xl]
      refine lc_filt (walk_range (lo := 0) (n := n)) (fun i => ¬ ∀ j, j < n → Reach (EdQ n G) i j) nD (by omega) (fun x _ => rfl) (fun x => rfl) (fun H' s' => trivial) (fun i H' x H'' _ _ y => y.1) ?_ ?_
      · rintro i y H3 T hi s3 _ ⟨_, rfl⟩ t
        have e0 : (0 : Int) + ((i : Nat) : Int) = ((i : Nat) : Int) := by omega
        dsimp only
        rw [e0]
        have s23 := s2.trans s3
        refine ⟨_, rfl, _, rfl, W, .ref a, n, i, G, rfl, hd1.keep (Kp.same s23), n6, hi, fun p S H4 s4 e4 sl hS => ?_⟩
        refine ⟨p, nats S, rfl, .inl (.of e4), _, rfl, a, xs, rfl, .inr (.of ((s23.trans s4) _ _ ea)), _, _, rfl, rfl, _, rfl, t _ H4 ?_ s4⟩
        rw [nats_len, xl, ← hS]
        constructor
        · intro z
          have := of_decide_eq_true z
          omega
        · intro z
          exact decide_eq_true (by omega)
      · rintro H3 acc s3 eD hacc
        refine ⟨Nat.zero_le _, fun b nb => ?_⟩
        have s4 : Same H1 (upd H3 b (.lst [])) := s2.trans (s3.trans (same_new nb))
        refine ⟨D, b, acc, rfl, rfl, .of (same_new nb _ _ eD), .of upd_same, ?_⟩
        refine q acc.isEmpty _ (s1.trans s4) ?_
        rw [List.isEmpty_iff, hacc, isWhQ_iff n1 n6]
        constructor
        · exact fun h => ⟨nn, fun a b ha hb => Classical.byContradiction fun z => h a ha fun y => z (y b hb)⟩
        · exact fun h i hi z => z fun j hj => h.2 i j hi hj
def spLWk : Sp := fun vs H Q _ => ∃ (W : Addr → Prop) (v : V) (d : PyData), vs = [v] ∧ Dq W H v d ∧ Bd 300 d ∧ ∀ b H', Same H H' → (b = true ↔ IsWalk d) → Q (.bl b) H'
theorem ok_lwalkQ {f : Addr} {fd : FuncData} (F : Fun K "_law_is_walk" "_law_is_walk" s_law_is_walk f fd) (M : Mb mg) (Dlaw_is_whole : Df P w K mg base 5 "_law_is_whole" ["thing"] spLWh) (Dlaw_total : Df P w K mg base 3 "_law_total" ["some"] (spSum K (SqT K))) :
    FnOk P w K mg base CX0 6 f fd ["thing"] spLWk := by
  refine F.ok c_law_is_walk (fun vs H Q E h => ?_) (fun cdv A outer s H vs Q E hr h => ?_)
  · obtain ⟨_, v, d, rfl, _⟩ := h
    rfl
  · obtain ⟨W, v, d, rfl, hd, bd, q⟩ := h
    have hu := hr.units
    refine ⟨_, (pss_one (ps_ret (pe_and (pe_call Dlaw_is_whole.G (hr.mono (by first | decide | omega)) rfl Dlaw_is_whole.g Dlaw_is_whole.kp Dlaw_is_whole.b .nil pass0 (pa_cons (pv 0) pa_nil)) (pe_one (pe_cmpR (op_eqNil hu) (pe_lc (own := [("each", 1)]) rfl c_law_is_walk.nd (pi_tup (pv 0)) (blkOk_by (own := [("each", 1)]) (N := n_law_is_walk) (sc := defScope s_law_is_walk) (by decide +kernel)) (fun _ _ _ _ _ => (pg_name (i := 1) c_law_is_walk.nd rfl (.inl rfl))) (fun _ _ _ _ _ => (pts_one (pt_cmpR (op_neDK (K := K) rfl hu) (pe_call Dlaw_total.G (hr.mono (by first | decide | omega)) rfl Dlaw_total.g Dlaw_total.kp Dlaw_total.b .nil pass0 (pa_cons (pv 1) pa_nil)) (pe_tup (pa_cons pe_int (pa_cons pe_int pa_nil))) (nomark _)))) (fun _ _ _ _ _ => (pv 1))) (pe_lst pa_nil) (nomark _)))))), ?_⟩
    refine ⟨_, rfl, W, v, d, rfl, hd, bd, fun b1 H1 s1 hb => ⟨_, rfl, ite2 (fun c0 => ?_) (fun c0 => ?_)⟩⟩
    · obtain ⟨n, G, n1, n6, rfl, h0, h1⟩ := hb.mp c0
      have wh := hb.mp c0
      have hd1 := hd.keep (Kp.same s1)
      obtain ⟨a, xs, rfl, na, ea, el⟩ := hd1.tupI
      unfold tabF at el
      have xl : xs.length = n := by
        have := el.length
        simpa using this
      refine ⟨_, rfl, a, rfl, ⟨xs, .of ea⟩, fun D nD => lc_filt (walk_tup (K := K) (a := a) (xs := xs)) (fun i => Bq.sumQ ((List.range n).map (G i)) ≠ 1) nD (by omega) (fun x _ => rfl) (fun x => rfl)
        (fun H' s' => .of (s' _ _ ea)) (fun i H' x H'' _ _ y => y.1) ?_ ?_⟩
      · rintro i y H3 T hi s3 _ ⟨_, hy⟩ t
        obtain ⟨hin, dy⟩ := tab_at el hy
        obtain ⟨c, zz, rfl, nc, ec, ez⟩ := (dy.keep (Kp.same s3)).tupI
        refine ⟨_, rfl, c, zz, (List.range n).map (G i), 300, rfl, .of ec, dq_row ez, fun q' hq => ?_, by rw [List.length_map, List.length_range]; omega, fun vt H4 s4 dt => ?_⟩
        · obtain ⟨j, hj, rfl⟩ := List.mem_map.mp hq
          exact bd_tab.mp bd _ (mem_tabF.mpr ⟨i, hin, rfl⟩) _ (List.mem_map.mpr ⟨j, hj, rfl⟩)
        · refine ⟨sz63 (by show 2 ≤ 1000; decide), fun p np => ?_⟩
          have fp : FrA (upd H4 p (.tup [.int 1, .int 1])) (.ref p) 1 := ⟨p, rfl, upd_same⟩
          have ft := (dq_frA dt).same (same_new (o := .tup [.int 1, .int 1]) np)
          have s5 : Same H3 (upd H4 p (.tup [.int 1, .int 1])) := s4.trans (same_new np)
          generalize upd H4 p (.tup [.int 1, .int 1]) = H5 at fp ft s5 ⊢
          refine ⟨frD _, frD _, fr_dp ft.fr, fr_dp fp.fr, fr_shaped _, fr_shaped _, ?_⟩
          rw [fr_eqv]
          refine ⟨_, rfl, t _ H5 ?_ s5⟩
          constructor
          · intro z
            simpa using z
          · intro z
            simpa using z
      · rintro H3 acc s3 eD hacc
        refine ⟨Nat.zero_le _, fun b nb => ?_⟩
        refine ⟨D, b, acc, rfl, rfl, .of (same_new nb _ _ eD), .of upd_same, ?_⟩
        refine q acc.isEmpty _ (s1.trans (s3.trans (same_new nb))) ?_
        rw [List.isEmpty_iff, hacc, isWalk_iff n1 n6]
        constructor
        · exact fun h => ⟨wh, fun i hi => Classical.byContradiction fun z => h i (by omega) z⟩
        · exact fun h i hi z => z (h.2 i (by omega))
    · refine q false H1 s1 ⟨(fun z => nomatch z), fun z => ?_⟩
      obtain ⟨n, G, n1, n6, e⟩ := isSqQ_iff.mp (isWalk_sq z)
      rw [e] at z hb
      exact absurd (hb.mpr ((isWalk_iff n1 n6).mp z).1) c0
end
end Kx
/-! The law's own look at glasses and sighted walks. -/
namespace Kx
open PySem PySem.Spec PyProof.Rows L2 Bw
abbrev s_law_is_glasses : Stmt := topS 57
abbrev n_law_is_glasses : List Str := ["thing", "size", "each"]
theorem c_law_is_glasses : FnScope n_law_is_glasses ["thing", "size"] (defScope s_law_is_glasses) :=
  ⟨rfl, rfl, rfl, by decide +kernel, rfl, by decide +kernel, by decide +kernel⟩

abbrev s_law_is_view : Stmt := topS 58
abbrev n_law_is_view : List Str := ["thing"]
theorem c_law_is_view : FnScope n_law_is_view ["thing"] (defScope s_law_is_view) :=
  ⟨rfl, rfl, rfl, by decide +kernel, rfl, by decide +kernel, by decide +kernel⟩

theorem nums_ints : ∀ {ds : List PyData}, ds.all isNum = true → ∃ ns : List Int, ds = ns.map PyData.int
  | [], _ => ⟨[], rfl⟩
  | d :: ds, h => by
    rw [List.all_cons, Bool.and_eq_true] at h
    obtain ⟨ns, rfl⟩ := nums_ints h.2
    cases d with
    | int i => exact ⟨i :: ns, rfl⟩
    | _ => exact nomatch h.1
theorem ints_nums (ns : List Int) : (ns.map PyData.int).all isNum = true := by
  rw [List.all_map, List.all_eq_true]
  exact fun x _ => rfl
theorem dq_ints {W : Addr → Prop} {H : Hp} : ∀ {xs : List V} {ns : List Int}, DqAll W H xs (ns.map PyData.int) → xs = ns.map V.int
  | [], [], _ => rfl
  | [], _ :: _, h => nomatch h
  | _ :: _, [], h => nomatch h
  | x :: xs, k :: ns, h => by
    cases h with
    | cons a b =>
      cases a
      rw [dq_ints b]
      rfl
theorem inI (x : Int) : ∀ ks : List Int, inV (.int x) (ks.map V.int) = decide (x ∈ ks)
  | [] => rfl
  | k :: ks => by
    show (eqV (.int k) (.int x) || inV (.int x) (ks.map V.int)) = _
    rw [inI x ks]
    show ((k == x) || _) = _
    by_cases c : x = k
    · subst c
      simp
    · have : (k == x) = false := by
        simp
        omega
      rw [this, Bool.false_or]
      by_cases d : x ∈ ks
      · rw [decide_eq_true d, decide_eq_true (List.mem_cons_of_mem _ d)]
      · rw [decide_eq_false d, decide_eq_false fun z => (List.mem_cons.mp z).elim c d]
theorem flat_ints : ∀ ks : List Int, (ks.map V.int).all flatV = true
  | [] => rfl
  | k :: ks => flat_ints ks
theorem gl_ints {n : Nat} {ns : List Int} (l : ns.length = n) : (∀ x ∈ ns, ¬ (x < 0 ∨ 0 < x ∧ x - 1 ∉ ns)) ↔ IsGl n (.tuple (ns.map PyData.int)) := by
  constructor
  · intro h
    have pos : ∀ x ∈ ns, 0 ≤ x := fun x hx => Classical.byContradiction fun z => h x hx (.inl (by omega))
    have e : ns.map PyData.int = (ns.map Int.toNat).map fun x : Nat => PyData.int (x : Nat) := by
      rw [List.map_map]
      refine List.map_congr_left fun x hx => ?_
      show PyData.int x = PyData.int (x.toNat : Nat)
      rw [Int.toNat_of_nonneg (pos x hx)]
    refine ⟨ns.map Int.toNat, by rw [e]; rfl, by rw [List.length_map, l], fun x hx x0 => ?_⟩
    obtain ⟨y, hy, rfl⟩ := List.mem_map.mp hx
    have y0 := pos y hy
    have y1 : y - 1 ∈ ns := Classical.byContradiction fun z => h y hy (.inr ⟨by omega, z⟩)
    refine List.mem_map.mpr ⟨y - 1, y1, by omega⟩
  · rintro ⟨g, e, gl, h⟩ x hx
    have e := PyData.tuple.inj e
    have mem : ∀ y : Int, y ∈ ns ↔ ∃ k : Nat, k ∈ g ∧ y = (k : Int) := fun y => by
      constructor
      · intro hy
        have : PyData.int y ∈ ns.map PyData.int := List.mem_map.mpr ⟨y, hy, rfl⟩
        rw [e] at this
        obtain ⟨k, hk, ek⟩ := List.mem_map.mp this
        exact ⟨k, hk, (PyData.int.inj ek).symm⟩
      · rintro ⟨k, hk, rfl⟩
        have : PyData.int (k : Nat) ∈ g.map fun x : Nat => PyData.int (x : Nat) := List.mem_map.mpr ⟨k, hk, rfl⟩
        rw [← e] at this
        obtain ⟨y, hy, ey⟩ := List.mem_map.mp this
        rw [← PyData.int.inj ey]
        exact hy
    obtain ⟨k, hk, rfl⟩ := (mem x).mp hx
    rintro (z | ⟨z1, z2⟩)
    · omega
    · exact z2 ((mem _).mpr ⟨k - 1, h k hk (by omega), by omega⟩)
section
variable {P : Program} {w : World} {K : PySem.W.Frag} {mg : Str → Option Value} {base : Heap}
def spLg : Sp := fun vs H Q _ => ∃ (W : Addr → Prop) (v : V) (d : PyData) (n : Nat), vs = [v, .int (n : Nat)] ∧ Dq W H v d ∧ n ≤ 100 ∧ ∀ b H', Same H H' → (b = true ↔ IsGl n d) → Q (.bl b) H'
theorem ok_lglasses {f : Addr} {fd : FuncData} (F : Fun K "_law_is_glasses" "_law_is_glasses" s_law_is_glasses f fd) (M : Mb mg) (Dlaw_is_row : Df P w K mg base 1 "_law_is_row" ["thing", "size"] spLen) (Dlaw_is_int : Df P w K mg base 1 "_law_is_int" ["thing"] (spAsk isNum)) :
    FnOk P w K mg base CX0 2 f fd ["thing", "size"] spLg := by
  refine F.ok c_law_is_glasses (fun vs H Q E h => ?_) (fun cdv A outer s H vs Q E hr h => ?_)
  · obtain ⟨_, v, d, n, rfl, _⟩ := h
    rfl
  · obtain ⟨W, v, d, n, rfl, hd, n100, q⟩ := h
    have hu := hr.units
    refine ⟨_, (pss_cons (ps_if (PW.pt (pw_or (pt_not (pt_val (pe_call Dlaw_is_row.G (hr.mono (by first | decide | omega)) rfl Dlaw_is_row.g Dlaw_is_row.kp Dlaw_is_row.b .nil pass0 (pa_cons (pv 0) (pa_cons (pv 1) pa_nil))))) (pw_or1 (pt_cmpR (op_neNil hu) (pe_lc (own := [("each", 2)]) rfl c_law_is_glasses.nd (pi_tup (pv 0)) (blkOk_by (own := [("each", 2)]) (N := n_law_is_glasses) (sc := defScope s_law_is_glasses) (by decide +kernel)) (fun _ _ _ _ _ => (pg_name (i := 2) c_law_is_glasses.nd rfl (.inl rfl))) (fun _ _ _ _ _ => (pts_one (pt_not (pt_val (pe_call Dlaw_is_int.G (hr.mono (by first | decide | omega)) rfl Dlaw_is_int.g Dlaw_is_int.kp Dlaw_is_int.b .nil pass0 (pa_cons (pv 2) pa_nil)))))) (fun _ _ _ _ _ => (pv 2))) (pe_lst pa_nil) (nomark _)))))
 (pss_one (ps_ret pe_bl))
 pss_nil)
 (pss_one (ps_ret (pe_cmpR (op_eqNil hu) (pe_lc (own := [("each", 2)]) rfl c_law_is_glasses.nd (pi_tup (pv 0)) (blkOk_by (own := [("each", 2)]) (N := n_law_is_glasses) (sc := defScope s_law_is_glasses) (by decide +kernel)) (fun _ _ _ _ _ => (pg_name (i := 2) c_law_is_glasses.nd rfl (.inl rfl))) (fun _ _ _ _ _ => (pts_one (PW.pt (pw_or (pt_cmpR op_lt (pv 2) pe_int (nomark _)) (pw_or1 (PW.pt (pw_and (pt_cmpR op_gt (pv 2) pe_int (nomark _)) (pw_and1 (pt_cmpR (op_notInK (K := K) rfl) (pe_op op_sub (pv 2) pe_int) (pv 0) (by rfl)))))))))) (fun _ _ _ _ _ => (pv 2))) (pe_lst pa_nil) (nomark _))))), ?_⟩
    refine ⟨_, rfl, _, rfl, W, v, d, n, rfl, hd, _, rfl, ?_⟩
    cases hd with
    | tup na ea el =>
      rename_i c zs es
      have zl := el.length
      refine ite2 (fun c0 => ?_) (fun c0 => ?_)
      · refine q false H (.refl H) ⟨(fun z => nomatch z), fun ⟨g, e, gl, _⟩ => ?_⟩
        have : isLen n (.tuple es) = true := by
          rw [PyData.tuple.inj e]
          show decide ((g.map _).length = n) = true
          rw [List.length_map]
          exact decide_eq_true gl
        rw [this] at c0
        cases c0
      · have c' : es.length = n := by
          refine Classical.byContradiction fun z => c0 ?_
          rw [show isLen n (.tuple es) = false from decide_eq_false z]
          rfl
        refine ⟨_, rfl, c, rfl, ⟨zs, .of ea⟩, fun D nD => lc_filt (walk_tup (K := K) (a := c) (xs := zs)) (fun i => ∃ e, es[i]? = some e ∧ isNum e = false) nD (by omega) (fun x _ => rfl) (fun x => rfl)
          (fun H' s' => .of (s' _ _ ea)) (fun i H' x H'' _ _ y => y.1) ?_ ?_⟩
        · rintro j y H2 T hj s2 _ ⟨_, hy⟩ t
          obtain ⟨e, he, dx⟩ := el.at hy
          refine ⟨_, rfl, W, y, e, rfl, dx.keep (Kp.same s2), ⟨_, rfl, t _ H2 ?_ (.refl _)⟩⟩
          constructor
          · intro z
            exact ⟨e, he, by simpa using z⟩
          · rintro ⟨e', g1, g2⟩
            rw [he] at g1
            obtain rfl := Option.some.inj g1
            rw [g2]
            rfl
        · rintro H2 acc s2 eD hacc
          refine ⟨Nat.zero_le _, fun bN nbN => ?_⟩
          have eb' : (upd H2 bN (.lst [])) D = some (.lst acc) := by rw [upd_ne (ne_of_none eD nbN)]; exact eD
          have eqn : acc.isEmpty = es.all isNum := by
            rw [Bool.eq_iff_iff, List.all_eq_true, List.isEmpty_iff, hacc]
            constructor
            · intro z e he
              obtain ⟨j, hj⟩ := List.mem_iff_getElem?.mp he
              cases hf : isNum e with
              | true => rfl
              | false => exact absurd ⟨e, hj, hf⟩ (z j (by rw [zl]; exact (List.getElem?_eq_some_iff.mp hj).1))
            · rintro z j hj ⟨e, he, hf⟩
              rw [z e (List.mem_of_getElem? he)] at hf
              cases hf
          have s3 : Same H (upd H2 bN (.lst [])) := s2.trans (same_new nbN)
          refine ⟨D, bN, acc, rfl, rfl, .of eb', .of upd_same, ?_⟩
          generalize upd H2 bN (.lst []) = H3 at s3 ⊢
          rw [eqn]
          cases hA : es.all isNum with
          | false =>
            refine ⟨_, rfl, ifT rfl (q false H3 s3 ⟨(fun z => nomatch z), fun ⟨g, e, _, _⟩ => ?_⟩)⟩
            rw [PyData.tuple.inj e] at hA
            have : (g.map fun x : Nat => PyData.int (x : Nat)).all isNum = true := by
              rw [List.all_map, List.all_eq_true]
              exact fun x _ => rfl
            rw [this] at hA
            cases hA
          | true =>
            obtain ⟨ns, rfl⟩ := nums_ints hA
            obtain rfl := dq_ints el
            refine ⟨_, rfl, ifF (fun z => nomatch z) ?_⟩
            dsimp only [tNext]
            have ln : ns.length = n := by
              rw [← c', List.length_map]
            have ea3 := s3 _ _ ea
            refine ⟨_, rfl, c, rfl, ⟨_, .of ea3⟩, fun D nD => lc_filt (walk_tup (K := K) (a := c) (xs := ns.map V.int)) (fun i => ∃ x, ns[i]? = some x ∧ (x < 0 ∨ 0 < x ∧ x - 1 ∉ ns)) nD (by rw [List.length_map]; omega) (fun x _ => rfl) (fun x => rfl)
              (fun H' s' => .of (s' _ _ ea3)) (fun i H' x H'' _ _ y => y.1) ?_ ?_⟩
            · rintro j y H4 T hj s4 _ ⟨_, hy⟩ t
              have ea4 := s4 _ _ ea3
              obtain ⟨x, hx, rfl⟩ := map_some hy
              have iff : ∀ b : Bool, (b = true ↔ (x < 0 ∨ 0 < x ∧ x - 1 ∉ ns)) → (b = true ↔ ∃ x, ns[j]? = some x ∧ (x < 0 ∨ 0 < x ∧ x - 1 ∉ ns)) := fun b h => by
                rw [h]
                constructor
                · exact fun z => ⟨x, hx, z⟩
                · rintro ⟨x', g1, g2⟩
                  rw [hx] at g1
                  obtain rfl := Option.some.inj g1
                  exact g2
              refine ⟨_, rfl, _, _, rfl, rfl, _, rfl, ite2 (fun h1 => ?_) (fun h1 => ?_)⟩
              · exact t true H4 (iff true ⟨fun _ => .inl (of_decide_eq_true h1), fun _ => rfl⟩) (.refl _)
              · have h1 : ¬ x < 0 := fun z => h1 (decide_eq_true z)
                refine ⟨_, rfl, _, _, rfl, rfl, _, rfl, ite2 (fun h2 => ?_) (fun h2 => ?_)⟩
                · have h2 := of_decide_eq_true h2
                  refine ⟨_, rfl, _, _, rfl, rfl, _, rfl, c, ns.map V.int, rfl, .inr (.of ea4), rfl, flat_ints _, _, rfl, ?_⟩
                  refine t _ H4 (iff _ ?_) (.refl _)
                  rw [inI]
                  constructor
                  · intro z
                    refine .inr ⟨h2, fun y => ?_⟩
                    rw [decide_eq_true y] at z
                    cases z
                  · rintro (z | ⟨_, z⟩)
                    · exact absurd z h1
                    · rw [decide_eq_false z]
                      rfl
                · refine t false H4 (iff false ⟨(fun z => nomatch z), ?_⟩) (.refl _)
                  rintro (z | ⟨z, _⟩)
                  · exact absurd z h1
                  · exact absurd (decide_eq_true z) h2
            · rintro H4 acc s4 eD hacc
              refine ⟨Nat.zero_le _, fun bN nbN => ?_⟩
              have eb' : (upd H4 bN (.lst [])) D = some (.lst acc) := by rw [upd_ne (ne_of_none eD nbN)]; exact eD
              refine ⟨D, bN, acc, rfl, rfl, .of eb', .of upd_same, ?_⟩
              refine q acc.isEmpty _ (s3.trans (s4.trans (same_new nbN))) ?_
              rw [← gl_ints ln, List.isEmpty_iff, hacc]
              constructor
              · intro z x hx hz
                obtain ⟨j, hj⟩ := List.mem_iff_getElem?.mp hx
                exact z j (by rw [List.length_map]; exact (List.getElem?_eq_some_iff.mp hj).1) ⟨x, hj, hz⟩
              · rintro z j hj ⟨x, hx, hz⟩
                exact z x (List.mem_of_getElem? hx) hz
    | _ => exact ifT rfl (q false H (.refl H) ⟨(fun z => nomatch z), fun ⟨_, e, _⟩ => nomatch e⟩)
def spLv : Sp := fun vs H Q _ => ∃ (W : Addr → Prop) (v : V) (d : PyData), vs = [v] ∧ Dq W H v d ∧ Bd 300 d ∧ ∀ b H', Same H H' → (b = true ↔ IsVw d) → Q (.bl b) H'
theorem ok_lisview {f : Addr} {fd : FuncData} (F : Fun K "_law_is_view" "_law_is_view" s_law_is_view f fd) (M : Mb mg) (Dlaw_is_row : Df P w K mg base 1 "_law_is_row" ["thing", "size"] spLen) (Dlaw_is_walk : Df P w K mg base 6 "_law_is_walk" ["thing"] spLWk)
    (Dlaw_is_glasses : Df P w K mg base 2 "_law_is_glasses" ["thing", "size"] spLg) : FnOk P w K mg base CX0 7 f fd ["thing"] spLv := by
  refine F.ok c_law_is_view (fun vs H Q E h => ?_) (fun cdv A outer s H vs Q E hr h => ?_)
  · obtain ⟨_, v, d, rfl, _⟩ := h
    rfl
  · obtain ⟨W, v, d, rfl, hd, bd, q⟩ := h
    refine ⟨_, (pss_one (ps_ret (pe_and (pe_call Dlaw_is_row.G (hr.mono (by first | decide | omega)) rfl Dlaw_is_row.g Dlaw_is_row.kp Dlaw_is_row.b .nil pass0 (pa_cons (pv 0) (pa_cons pe_int pa_nil))) (pe_and (pe_call Dlaw_is_walk.G (hr.mono (by first | decide | omega)) rfl Dlaw_is_walk.g Dlaw_is_walk.kp Dlaw_is_walk.b .nil pass0 (pa_cons (pe_ix ix_tup (pv 0) pe_int (fun _ _ => rfl)) pa_nil)) (pe_one (pe_call Dlaw_is_glasses.G (hr.mono (by first | decide | omega)) rfl Dlaw_is_glasses.g Dlaw_is_glasses.kp Dlaw_is_glasses.b .nil pass0 (pa_cons (pe_ix ix_tup (pv 0) pe_int (fun _ _ => rfl)) (pa_cons (pe_callB call_len_seq (by rfl) M.len (by decide +kernel) (pa_cons (pe_ix ix_tup (pv 0) pe_int (fun _ _ => rfl)) pa_nil)) pa_nil)))))))), ?_⟩
    refine ⟨_, rfl, W, v, d, 2, rfl, hd, _, rfl, ?_⟩
    cases hd with
    | tup na ea el =>
      rename_i c zs es
      refine ite2 (fun c0 => ?_) (fun c0 => ?_)
      · have c' : es.length = 2 := of_decide_eq_true c0
        have l2 : zs.length = 2 := by rw [el.length, c']
        match zs, es, l2, el with
        | [x, y], [dw, dg], _, .cons dx (.cons dy .nil) =>
          have bw : Bd 300 dw := bdAll_iff.mp bd dw (by simp)
          refine ⟨_, rfl, c, [x, y], 0, x, rfl, rfl, .of ea, rfl, W, x, dw, rfl, dx, bw, fun b1 H1 s1 h1 => ⟨_, rfl, ite2 (fun c1 => ?_) (fun c1 => ?_)⟩⟩
          · have iw := h1.mp c1
            obtain ⟨ds, rfl⟩ := walk_tup' iw
            obtain ⟨c2, zs, rfl, ec, zl⟩ := dq_len (dx.keep (Kp.same s1))
            obtain ⟨l1, l6⟩ := walk_len iw
            have ea1 := s1 _ _ ea
            refine ⟨_, rfl, c, _, 1, y, rfl, rfl, .of ea1, rfl, _, rfl, c, _, 0, _, rfl, rfl, .of ea1, rfl, c2, zs, rfl, .inr (.of ec), W, y, dg, ds.length, by rw [← zl]; rfl, dy.keep (Kp.same s1), by have : ds.length ≤ 6 := l6; omega, fun b H2 s2 h2 => q b H2 (s1.trans s2) ?_⟩
            rw [h2]
            constructor
            · exact fun h => ⟨_, _, rfl, iw, h⟩
            · rintro ⟨dw', dg', e, _, h⟩
              cases PyData.tuple.inj e
              exact h
          · refine q false H1 s1 ⟨(fun z => nomatch z), fun ⟨dw', dg', e, h, _⟩ => absurd (h1.mpr ?_) c1⟩
            cases PyData.tuple.inj e
            exact h
      · refine q false H (.refl H) ⟨(fun z => nomatch z), fun ⟨dw', dg', e, _⟩ => absurd ?_ c0⟩
        rw [e]
        rfl
    | _ => exact ifF (fun z => nomatch z) (q false H (.refl H) ⟨(fun z => nomatch z), fun ⟨_, _, e, _⟩ => nomatch e⟩)
end
end Kx
/-! Data that stand do not lie in an object that is new. -/
namespace Bw
open PySem PySem.Spec PyProof.Rows L2
mutual
theorem Dq.fresh {W : Addr → Prop} {H : Hp} {p : Addr} (h : H p = none) : ∀ {v : V} {d : PyData}, Dq W H v d → Dq (fun a => W a ∨ a = p) H v d
  | _, _, .non => .non
  | _, _, .bl b => .bl b
  | _, _, .int i => .int i
  | _, _, .str x => .str x
  | _, _, .lst n e t => .lst (fun z => z.elim n (fun y => by rw [y, h] at e; cases e)) e (DqAll.fresh h t)
  | _, _, .tup n e t => .tup (fun z => z.elim n (fun y => by rw [y, h] at e; cases e)) e (DqAll.fresh h t)
  | _, _, .dct n e t => .dct (fun z => z.elim n (fun y => by rw [y, h] at e; cases e)) e (DqAll.fresh h t)
theorem DqAll.fresh {W : Addr → Prop} {H : Hp} {p : Addr} (h : H p = none) : ∀ {vs : List V} {ds : List PyData}, DqAll W H vs ds → DqAll (fun a => W a ∨ a = p) H vs ds
  | _, _, .nil => .nil
  | _, _, .cons a b => .cons (Dq.fresh h a) (DqAll.fresh h b)
end
end Bw
/-! repr of data that may hold the program's constants. -/
namespace Bw
open PySem PySem.Spec PyProof.Rows L2
section
variable {X : Cx} {pins : List (Addr × Obj)} {σ : L2.St} {H : Hp} {s : Shared}
mutual
theorem Dp.rds (I : Inv X pins σ H s) : ∀ (d : PyData) (v : V) (u : Value), Dp X.K H v d → RelV v u → RdS s.heap u d
  | _, _, _, .non, r => by cases r; exact .none
  | _, _, _, .bl b, r => by cases r; exact .bool b
  | _, _, _, .int i, r => by obtain ⟨t, rfl⟩ := r; exact .int i t
  | _, _, _, .str x, r => by obtain ⟨t, rfl⟩ := r; exact .str x t
  | _, _, _, .lst (a := a) (xs := xs) e h, r => by
    cases r
    obtain ⟨its, rv, pl, _⟩ := I.list e
    obtain ⟨o, ho, hc, n, hd⟩ := pl.isList
    exact .list ho hc hd (DpAll.rds I _ _ its h rv)
  | _, _, _, .tup (a := a) (xs := xs) e h, r => by
    cases r
    obtain ⟨its, rv, ⟨o, ho, hc, n, hd⟩, _⟩ := I.tuple e
    exact .tuple ho hc hd (DpAll.rds I _ _ its h rv)
theorem DpAll.rds (I : Inv X pins σ H s) : ∀ (ds : List PyData) (vs : List V) (us : List Value), DpAll X.K H vs ds → Vals vs us → RdSAll s.heap us ds
  | _, _, _, .nil, r => by cases r; exact .nil
  | _, _, _, .cons h t, r => by
    cases r with
    | cons r1 r2 => exact .cons (Dp.rds I _ _ _ h r1) (DpAll.rds I _ _ _ t r2)
end
/-- repr(xs), xs a list or a tuple of data, the program's constants among them -/
def rReprP (K : PySem.W.Frag) : List V → Hp → VK → Prop := fun vs H Q => ∃ (v : V) (xs : List PyData), vs = [v] ∧ PyData.showableAll xs = true ∧
  ((Dp K H v (.list xs) ∧ (PyData.list xs).shown.length ≤ sizeLine ∧ (PyData.list xs).depth ≤ 60 ∧ Q (.str (PyData.list xs).shown) H) ∨
   (Dp K H v (.tuple xs) ∧ (PyData.tuple xs).shown.length ≤ sizeLine ∧ (PyData.tuple xs).depth ≤ 60 ∧ Q (.str (PyData.tuple xs).shown) H))
theorem call_reprP {k : Nat} (hG : X.A.guards = some []) (hr : Room k X.A) : CallR X (.builtin "repr") (rReprP X.K) := by
  intro pins s σ H xs us Q I r h
  obtain ⟨v, ds, rfl, hs, h⟩ := h
  obtain ⟨u, rfl, ru⟩ := Vals.one r
  have hu := hr.units
  rcases h with ⟨hd, hz, hdp, q⟩ | ⟨hd, hz, hdp, q⟩
  · have rr := Dp.rds I _ _ u hd ru
    cases hd with
    | lst e h =>
      obtain rfl : u = _ := ru
      exact repr_list rr hs hz hG (by omega) fun h' t tk hk => ⟨.str _, H, I.kept (t' := tk) hk, ⟨t, rfl⟩, q⟩
  · have rr := Dp.rds I _ _ u hd ru
    cases hd with
    | tup e h =>
      obtain rfl : u = _ := ru
      exact repr_tup rr hs hz hG (by omega) fun h' t tk hk => ⟨.str _, H, I.kept (t' := tk) hk, ⟨t, rfl⟩, q⟩
end
end Bw
/-! repr of True or False. -/
namespace Bw
open PySem PySem.Spec PyProof.Rows L2
def blS (b : Bool) : Str := if b then "True" else "False"
def rReprB : List V → Hp → VK → Prop := fun vs H Q => ∃ b, vs = [V.bl b] ∧ Q (.str (blS b)) H
theorem call_reprB {X : Cx} : CallR X (.builtin "repr") rReprB := by
  intro pins s σ H xs us Q I r h
  obtain ⟨b, rfl, q⟩ := h
  obtain ⟨u, rfl, ru⟩ := Vals.one r
  obtain rfl : u = .bool b := ru
  refine P.repr_of_bool ⟨.str (blS b), H, I.kept (t' := s.toks + 1) fun _ _ e => e, ⟨s.toks, ?_⟩, q⟩
  cases b <;> rfl
theorem blS_inj {a b : Bool} : (blS a = blS b) = (a = b) := by
  cases a <;> cases b <;> simp [blS] <;> decide
end Bw
/-! Marks merged; whether a value is judged as the law's own look does. -/
namespace Kx
open PySem PySem.Spec PyProof.Rows L2 Bw
abbrev s_law_merged : Stmt := topS 59
abbrev n_law_merged : List Str := ["well", "marks", "top"]
theorem c_law_merged : FnScope n_law_merged ["well", "marks"] (defScope s_law_merged) :=
  ⟨rfl, rfl, rfl, by decide +kernel, rfl, by decide +kernel, by decide +kernel⟩

abbrev s_law_through : Stmt := topS 60
abbrev n_law_through : List Str := ["new", "marks", "each"]
theorem c_law_through : FnScope n_law_through ["new", "marks"] (defScope s_law_through) :=
  ⟨rfl, rfl, rfl, by decide +kernel, rfl, by decide +kernel, by decide +kernel⟩

abbrev s_law_is_judged : Stmt := topS 61
abbrev n_law_is_judged : List Str := ["size", "thing"]
theorem c_law_is_judged : FnScope n_law_is_judged ["size", "thing"] (defScope s_law_is_judged) :=
  ⟨rfl, rfl, rfl, by decide +kernel, rfl, by decide +kernel, by decide +kernel⟩

section
variable {P : Program} {w : World} {K : PySem.W.Frag} {mg : Str → Option Value} {base : Heap}
/-- some of T marks taken for one -/
def spMg : Sp := fun vs H Q _ => ∃ (w l : Addr) (v : V) (g : List Nat) (T : Nat), vs = [.ref w, v] ∧ Dq (At w) H v (natsD g) ∧ 1 ≤ T ∧ T ≤ 60 ∧ T - 1 ∈ g ∧ (∀ x ∈ g, x < T) ∧ WellAt w l H ∧
  ∀ (H' : Hp) (l' p : Addr) (new : List Nat) (t : Nat), Kp (At w) H H' → WellAt w l' H' → (l' = l ∨ H l' = none) → p ≠ w → H' p = some (.tup (nats new)) → new.length = T → (∀ x ∈ new, x < t) → (∀ m, m < t → m ∈ new) → Q (.ref p) H'
theorem ok_lmerged {f : Addr} {fd : FuncData} (F : Fun K "_law_merged" "_law_merged" s_law_merged f fd) (M : Mb mg) (Dlaw_draw : Df P w K mg base 1 "_law_draw" ["well", "limit"] spPickL) (Dlaw_marks : Df P w K mg base 3 "_law_marks" ["well", "size", "top"] spMarks) :
    FnOk P w K mg base CX0 4 f fd ["well", "marks"] spMg := by
  refine F.ok c_law_merged (fun vs H Q E h => ?_) (fun cdv A outer s H vs Q E hr h => ?_)
  · obtain ⟨_, _, _, _, _, rfl, _⟩ := h
    rfl
  · obtain ⟨w, l, v, g, T, rfl, hd, T1, T9, hT, hx, hW, q⟩ := h
    refine ⟨_, (pss_cons (ps_set (i := 2) c_law_merged.nd rfl (.inl rfl) (pe_op op_add (pe_callB (cr_maxT rfl) (by rfl) M.max (by decide +kernel) (pa_cons (pv 1) pa_nil)) pe_int))
 (pss_one (ps_ret (pe_call Dlaw_marks.G (hr.mono (by first | decide | omega)) rfl Dlaw_marks.g Dlaw_marks.kp Dlaw_marks.b .nil pass0 (pa_cons (pv 0) (pa_cons (pv 2) (pa_cons (pe_op op_add pe_int (pe_call Dlaw_draw.G (hr.mono (by first | decide | omega)) rfl Dlaw_draw.g Dlaw_draw.kp Dlaw_draw.b .nil pass0 (pa_cons (pv 0) (pa_cons (pv 2) pa_nil)))) pa_nil))))))), ?_⟩
    obtain ⟨a, xs, rfl, na, ea, el⟩ := hd.tupI
    obtain rfl := dq_nats el
    have en : nats g = (g.map fun x : Nat => (x : Int)).map V.int := by
      unfold nats
      rw [List.map_map]
      rfl
    rw [en] at ea
    have g0 : 0 < (g.map fun x : Nat => (x : Int)).length := by
      rw [List.length_map]
      exact List.length_pos_of_mem hT
    refine ⟨_, rfl, a, _, rfl, .of ea, g0, fun m hm hb => ?_⟩
    obtain ⟨m', hm', rfl⟩ := List.mem_map.mp hm
    have mT : m' + 1 = T := by
      have := hx m' hm'
      have := hb _ (List.mem_map.mpr ⟨T - 1, hT, rfl⟩)
      omega
    refine ⟨_, _, rfl, rfl, ?_⟩
    have eT : ((m' : Nat) : Int) + 1 = ((T : Nat) : Int) := by omega
    dsimp only
    rw [eT]
    refine ⟨_, rfl, _, rfl, _, rfl, _, rfl, w, l, ((T : Nat) : Int), rfl, by omega, by omega, hW, fun H1 d l1 d0 d1 k1 W1 hl1 => ?_⟩
    refine ⟨_, _, rfl, rfl, ?_⟩
    obtain ⟨t, et, t1, tT⟩ : ∃ t : Nat, (1 : Int) + d = ((t : Nat) : Int) ∧ 1 ≤ t ∧ t ≤ T := ⟨(1 + d).toNat, by omega, by omega, by omega⟩
    dsimp only
    rw [et]
    refine ⟨w, l1, T, t, rfl, t1, tT, by omega, W1, fun H2 l2 p new k2 W2 hl2 pw ep nl nt na => ?_⟩
    exact q H2 l2 p new t (k1.trans k2) W2 (well_up (w := w) hl1 hl2 k1 W2) pw ep nl nt na
/-- each mark changed -/
def spTh : Sp := fun vs H Q _ => ∃ (W W' : Addr → Prop) (u v : V) (new g : List Nat), vs = [u, v] ∧ Dq W H u (natsD new) ∧ Dq W' H v (natsD g) ∧ g.length ≤ 60 ∧ (∀ x ∈ g, x < new.length) ∧
  ∀ (p : Addr) (H' : Hp), Same H H' → H p = none → H' p = some (.tup (nats (g.map fun x => new.getD x 0))) → Q (.ref p) H'
theorem ok_lthrough {f : Addr} {fd : FuncData} (F : Fun K "_law_through" "_law_through" s_law_through f fd) (M : Mb mg) : FnOk P w K mg base CX0 1 f fd ["new", "marks"] spTh := by
  refine F.ok c_law_through (fun vs H Q E h => ?_) (fun cdv A outer s H vs Q E hr h => ?_)
  · obtain ⟨_, _, _, _, _, _, rfl, _⟩ := h
    rfl
  · obtain ⟨W, W', u, v, new, g, rfl, hu, hv, g9, hx, q⟩ := h
    refine ⟨_, (pss_one (ps_ret (pe_callTy call_tuple_of (by rfl) M.tuple (by decide +kernel) (pa_cons (pe_lc (own := [("each", 2)]) rfl c_law_through.nd (pi_tup (pv 1)) (blkOk_by (own := [("each", 2)]) (N := n_law_through) (sc := defScope s_law_through) (by decide +kernel)) (fun _ _ _ _ _ => (pg_name (i := 2) c_law_through.nd rfl (.inl rfl))) (fun _ _ _ _ _ => pts_nil) (fun _ _ _ _ _ => (pe_ix (ix_tupK (K := K) rfl) (pv 0) (pv 2) (fun _ _ => rfl)))) pa_nil)))), ?_⟩
    obtain ⟨b, ys, rfl, nb, eb, elb⟩ := hu.tupI
    obtain rfl := dq_nats elb
    obtain ⟨a, xs, rfl, na, ea, el⟩ := hv.tupI
    obtain rfl := dq_nats el
    have gl : (nats g).length = g.length := by
      unfold nats
      rw [List.length_map]
    have mk : nats (g.map fun x => new.getD x 0) = g.map fun x => V.int (new.getD x 0 : Nat) := by
      unfold nats
      rw [List.map_map]
      rfl
    refine ⟨_, rfl, a, rfl, ⟨_, .of ea⟩, fun D nD => lc_rel (walk_tup (K := K) (a := a) (xs := nats g)) No (fun H i y => ∃ x, g[i]? = some x ∧ y = .int (new.getD x 0 : Nat)) (fun _ _ _ _ _ r => r) nD (fun _ z => z.elim) (by omega)
      (fun H' k' => .of (k' _ _ id ea)) ?_ ?_⟩
    · rintro i x _ H1 Q' hi k1 nDD ⟨rfl, hx'⟩ q'
      obtain ⟨k, hk, rfl⟩ := map_some hx'
      have hl := hx k (List.mem_of_getElem? hk)
      have eb1 := no_same k1 _ _ eb
      refine ⟨rfl, _, rfl, _, rfl, b, _, ((k : Nat) : Int), .int (new.getD k 0 : Nat), rfl, rfl, .of eb1, atI_nat (j := k) ?_, q' _ _ (.refl _) ⟨k, hk, rfl⟩⟩
      unfold nats
      rw [List.getElem?_map, List.getD_eq_getElem?_getD, List.getElem?_eq_getElem hl]
      rfl
    · rintro H1 acc k1 eD hla ha
      have s1 := no_same k1
      have ea1 : acc = nats (g.map fun x => new.getD x 0) := by
        rw [mk]
        refine List.ext_getElem? fun i => ?_
        by_cases hi : i < g.length
        · obtain ⟨x, hx, e⟩ := ha i _ (List.getElem?_eq_getElem (by omega))
          rw [List.getElem?_eq_getElem (by omega), e, List.getElem?_map, hx]
          rfl
        · rw [List.getElem?_eq_none (by omega), List.getElem?_eq_none (by rw [List.length_map]; omega)]
      rw [ea1] at eD
      refine ⟨D, _, rfl, .inl ⟨.of eD, fun p np => ?_⟩⟩
      refine q p _ (s1.trans (same_new np)) ?_ upd_same
      cases e : H p with
      | none => rfl
      | some o =>
        rw [s1 _ _ e] at np
        cases np
/-- judged as the law's own look does -/
def spJd : Sp := fun vs H Q _ => ∃ (W : Addr → Prop) (v : V) (d : PyData) (n : Nat), vs = [.int (n : Nat), v] ∧ Dq W H v d ∧ Bd 300 d ∧ 1 ≤ n ∧ n ≤ 6 ∧ ∀ H', Same H H' → Q (.bl true) H'
theorem ok_ljudged {f : Addr} {fd : FuncData} (F : Fun K "_law_is_judged" "_law_is_judged" s_law_is_judged f fd) (M : Mb mg) (Dis_glasses : Df P w K mg base 3 "is_glasses" ["many", "value"] spGlS) (Dis_sighted : Df P w K mg base 7 "is_sighted" ["value"] (spSi 300))
    (Dlaw_is_glasses : Df P w K mg base 2 "_law_is_glasses" ["thing", "size"] spLg) (Dlaw_is_view : Df P w K mg base 7 "_law_is_view" ["thing"] spLv) :
    FnG P w K mg base 8 f fd ["size", "thing"] spJd := by
  refine okG F c_law_is_judged (fun vs H Q E h => ?_) (fun cdv A outer s H vs Q E hG hr h => ?_)
  · obtain ⟨_, _, _, _, rfl, _⟩ := h
    rfl
  · obtain ⟨W, v, d, n, rfl, hd, bd, n1, n6, q⟩ := h
    refine ⟨_, (pss_cons (ps_if (pt_cmpR op_ne (pe_callB call_reprB (by rfl) M.repr (by decide +kernel) (pa_cons (pe_call Dis_glasses.G (hr.mono (by first | decide | omega)) rfl Dis_glasses.g Dis_glasses.kp Dis_glasses.b .nil pass0 (pa_cons (pv 0) (pa_cons (pv 1) pa_nil))) pa_nil)) (pe_callB call_reprB (by rfl) M.repr (by decide +kernel) (pa_cons (pe_call Dlaw_is_glasses.G (hr.mono (by first | decide | omega)) rfl Dlaw_is_glasses.g Dlaw_is_glasses.kp Dlaw_is_glasses.b .nil pass0 (pa_cons (pv 1) (pa_cons (pv 0) pa_nil))) pa_nil)) (nomark _))
 (pss_one (ps_ret pe_bl))
 pss_nil)
 (pss_one (ps_ret (pe_cmpR op_eq (pe_callB call_reprB (by rfl) M.repr (by decide +kernel) (pa_cons (pe_call Dis_sighted.G (hr.mono (by first | decide | omega)) rfl Dis_sighted.g Dis_sighted.kp Dis_sighted.b .nil pass0 (pa_cons (pv 1) pa_nil)) pa_nil)) (pe_callB call_reprB (by rfl) M.repr (by decide +kernel) (pa_cons (pe_call Dlaw_is_view.G (hr.mono (by first | decide | omega)) rfl Dlaw_is_view.g Dlaw_is_view.kp Dlaw_is_view.b .nil pass0 (pa_cons (pv 1) pa_nil)) pa_nil)) (nomark _))))), ?_⟩
    have two : ∀ {b c : Bool} {p : Prop}, (b = true ↔ p) → (c = true ↔ p) → c = b := fun {b c p} h1 h2 => by
      cases b with
      | true => exact h2.mpr (h1.mp rfl)
      | false =>
        cases c with
        | false => rfl
        | true => exact (h1.mpr (h2.mp rfl)).symm
    refine ⟨_, rfl, _, rfl, W, v, d, n, rfl, hd, n1, n6, fun b1 H1 s1 h1 => ?_⟩
    refine ⟨_, rfl, ?_⟩
    refine ⟨_, rfl, _, rfl, W, v, d, n, rfl, hd.keep (Kp.same s1), by omega, fun b2 H2 s2 h2 => ?_⟩
    obtain rfl := two h1 h2
    have s12 := s1.trans s2
    refine ⟨_, rfl, rfl, _, rfl, ifF (by simp) ?_⟩
    dsimp only [tNext]
    refine ⟨_, rfl, W, v, d, rfl, hd.keep (Kp.same s12), bd, fun b3 H3 s3 h3 => ?_⟩
    refine ⟨_, rfl, ?_⟩
    have s13 := s12.trans s3
    refine ⟨_, rfl, W, v, d, rfl, hd.keep (Kp.same s13), bd, fun b4 H4 s4 h4 => ?_⟩
    obtain rfl := two h3 h4
    refine ⟨_, rfl, rfl, ?_⟩
    rw [decide_eq_true rfl]
    exact q H4 (s13.trans s4)
end
end Kx
/-! An ear laid on what is joined already: all of it stays joined (for _law_any_walk). -/
namespace Bw
theorem ear_step {E : Nat → Nat → Prop} {v g : Nat → Nat} {k f s t : Nat} (hs : s < k) (ht : t < k) (g0 : g 0 = v s) (gi : ∀ i, i < f → g (i + 1) = v (k + i)) (ge : g (f + 1) = v t)
    (st : ∀ i, i < f + 1 → E (g i) (g (i + 1))) (con : ∀ a b, a < k → b < k → Reach E (v a) (v b)) : ∀ a b, a < k + f → b < k + f → Reach E (v a) (v b) := by
  have up : ∀ d i, i + d ≤ f + 1 → Reach E (g i) (g (i + d)) := by
    intro d
    induction d with
    | zero => exact fun i _ => .refl
    | succ d ih => exact fun i h => .step (ih i (by omega)) (st (i + d) (by omega))
  have out : ∀ a, a < k + f → Reach E (v a) (v t) := fun a ha => by
    by_cases c : a < k
    · exact con a t c ht
    · have h := up (f - (a - k)) (a - k + 1) (by omega)
      rw [show a - k + 1 + (f - (a - k)) = f + 1 by omega, ge, gi (a - k) (by omega), show k + (a - k) = a by omega] at h
      exact h
  have inn : ∀ a, a < k + f → Reach E (v s) (v a) := fun a ha => by
    by_cases c : a < k
    · exact con s a hs c
    · have h := up (a - k + 1) 0 (by omega)
      rw [Nat.zero_add, g0, gi (a - k) (by omega), show k + (a - k) = a by omega] at h
      exact h
  exact fun a b ha hb => (out a ha).trans ((con t s ht hs).trans (inn b hb))
end Bw
set_option exponentiation.threshold 4000
/-! A drawn walk by ears (second family of drawings). -/
namespace Kx
open PySem PySem.Spec PyProof.Rows L2 Bw
abbrev s_law_any_walk : Stmt := topS 43
abbrev n_law_any_walk : List Str := ["well", "size", "found", "order", "known", "turn", "fresh", "way", "at", "here", "there", "each", "x"]
theorem c_law_any_walk : FnScope n_law_any_walk ["well", "size"] (defScope s_law_any_walk) :=
  ⟨rfl, rfl, rfl, by decide +kernel, rfl, by decide +kernel, by decide +kernel⟩

/-- as Mb, and sum is not overlaid -/
structure MbS (mg : Str → Option Value) : Prop extends Mb mg where
  sum : mg "sum" = none
/-- rows of numbers in lists of one's own -/
def rowN (n : Nat) (f : Nat → Nat) : List V := nats ((List.range n).map f)
theorem rowN_len (n : Nat) (f : Nat → Nat) : (rowN n f).length = n := by
  unfold rowN
  rw [nats_len, List.length_map, List.length_range]
theorem rowN_at {n j : Nat} (f : Nat → Nat) (hj : j < n) : (rowN n f)[j]? = some (.int (f j : Nat)) := by
  unfold rowN nats
  rw [List.getElem?_map, List.getElem?_map, List.getElem?_range hj]
  rfl
theorem rowN_set {n b : Nat} (f : Nat → Nat) (c : Nat) : (rowN n f).set b (.int (c : Nat)) = rowN n fun j => if j = b then c else f j := by
  refine List.ext_getElem? fun j => ?_
  by_cases hj : j < n
  · rw [rowN_at _ hj]
    by_cases e : j = b
    · subst e
      rw [List.getElem?_set_self (by rw [rowN_len]; exact hj), if_pos rfl]
    · rw [List.getElem?_set_ne (Ne.symm e), rowN_at _ hj, if_neg e]
  · rw [List.getElem?_eq_none (by rw [List.length_set, rowN_len]; omega), List.getElem?_eq_none (by rw [rowN_len]; omega)]
structure RowsI (own : Addr → Option (List V)) (rs : List Addr) (n : Nat) (c : Nat → Nat → Nat) : Prop where
  len : rs.length = n
  nd : ∀ (i j : Nat) r, rs[i]? = some r → rs[j]? = some r → i = j
  row : ∀ (i : Nat) r, rs[i]? = some r → own r = some (rowN n (c i))
theorem RowsI.mono {own own' : Addr → Option (List V)} {rs : List Addr} {n : Nat} {c : Nat → Nat → Nat} (h : RowsI own rs n c) (ho : ∀ r ∈ rs, own' r = own r) : RowsI own' rs n c :=
  ⟨h.len, h.nd, fun i r e => by rw [ho r (List.mem_of_getElem? e)]; exact h.row i r e⟩
theorem RowsI.at {own : Addr → Option (List V)} {rs : List Addr} {n : Nat} {c : Nat → Nat → Nat} (h : RowsI own rs n c) {i : Nat} (hi : i < n) : ∃ r, rs[i]? = some r ∧ own r = some (rowN n (c i)) := by
  have hl := h.len
  have e : rs[i]? = some (rs[i]'(by omega)) := List.getElem?_eq_getElem (by omega)
  exact ⟨_, e, h.row i _ e⟩
def setC (c : Nat → Nat → Nat) (a b v : Nat) : Nat → Nat → Nat := fun i j => if i = a ∧ j = b then v else c i j
theorem RowsI.set {own : Addr → Option (List V)} {rs : List Addr} {n a b v : Nat} {c : Nat → Nat → Nat} {r : Addr} (h : RowsI own rs n c) (e : rs[a]? = some r) :
    RowsI (setO own r ((rowN n (c a)).set b (.int (v : Nat)))) rs n (setC c a b v) := by
  refine ⟨h.len, h.nd, fun i r' e' => ?_⟩
  by_cases q : i = a
  · subst q
    rw [e] at e'
    obtain rfl := Option.some.inj e'
    rw [setO_same, rowN_set]
    congr 2
    funext j
    unfold setC
    by_cases z : j = b
    · rw [if_pos z, if_pos ⟨rfl, z⟩]
    · rw [if_neg z, if_neg fun y => z y.2]
  · have ne : r' ≠ r := fun z => q (h.nd i a r (by rw [← z]; exact e') e)
    rw [setO_ne ne, h.row i r' e']
    congr 2
    funext j
    unfold setC
    rw [if_neg fun y => q y.1]
theorem OwnH.ext {H0 H : Hp} {w l p : Addr} {own : Addr → Option (List V)} {ys : List V} (h : OwnH H0 H w l own) (e : H p = some (.lst ys)) (p0 : H0 p = none) (pw : p ≠ w) (pl : p ≠ l) : OwnH H0 H w l (setO own p ys) :=
  ⟨h.kp, h.W, fun a zs g => by
    by_cases c : a = p
    · subst c
      rw [setO_same] at g
      obtain rfl := Option.some.inj g
      exact ⟨e, p0, pw, pl⟩
    · rw [setO_ne c] at g
      exact h.own a zs g⟩
theorem sumI_sN (f : Nat → Nat) : ∀ n, ((List.range n).map fun j => ((f j : Nat) : Int)).sum = ((sN n f : Nat) : Int)
  | 0 => rfl
  | n + 1 => by
    rw [List.range_succ, List.map_append, List.sum_append, sumI_sN f n]
    show _ + (((f n : Nat) : Int) + 0) = ((sN n f + f n : Nat) : Int)
    omega
/-- numbers below 4 (and 20 bits), links, what is joined -/
structure AnyC (n : Nat) (v : Nat → Nat) (k : Nat) (c : Nat → Nat → Nat) : Prop where
  lt : ∀ i j, c i j ≤ 3
  con : ∀ a b, a < k → b < k → Reach (fun x y => x < n ∧ y < n ∧ 0 < c x y) (v a) (v b)
theorem AnyC.set {n k : Nat} {v : Nat → Nat} {c : Nat → Nat → Nat} (h : AnyC n v k c) (a b d : Nat) (d3 : d ≤ 3) (d1 : 0 < d) : AnyC n v k (setC c a b d) := by
  refine ⟨fun i j => ?_, fun x y hx hy => (h.con x y hx hy).mono fun i j e => ⟨e.1, e.2.1, ?_⟩⟩
  · unfold setC
    split
    · exact d3
    · exact h.lt i j
  · unfold setC
    split
    · exact d1
    · exact e.2.2
section
variable {P : Program} {w : World} {K : PySem.W.Frag} {mg : Str → Option Value} {base : Heap}
theorem ok_lanywalk {f : Addr} {fd : FuncData} (F : Fun K "_law_any_walk" "_law_any_walk" s_law_any_walk f fd) (M : MbS mg) (Dlaw_draw : Df P w K mg base 1 "_law_draw" ["well", "limit"] spPickL) (Dlaw_order : Df P w K mg base 2 "_law_order" ["well", "size"] spOrder) (Dlaw_low : Df P w K mg base 1 "_law_low" ["up", "down"] spLowest) :
    FnOk P w K mg base CX0 3 f fd ["well", "size"] (spSome 56) := by
  refine F.ok c_law_any_walk (fun vs H Q E h => ?_) (fun cdv A outer s H vs Q E hr h => ?_)
  · obtain ⟨w, l, n, rfl, _⟩ := h
    rfl
  · obtain ⟨w, l, n, rfl, n1, n6, hW, q⟩ := h
    have hu := hr.units
    refine ⟨_, (pss_cons (ps_par3 (i := 2) (j := 3) (l := 4) (by rfl) c_law_any_walk.nd rfl rfl rfl (by decide) (by decide) (by decide) rfl rfl rfl (pa_cons (pe_lc (own := [("turn", 5)]) rfl c_law_any_walk.nd (pi_range1 (by rfl) M.range (pa_cons (pv 1) pa_nil)) (blkOk_by (own := [("turn", 5)]) (N := n_law_any_walk) (sc := defScope s_law_any_walk) (by decide +kernel)) (fun _ _ _ _ _ => (pg_name (i := 5) c_law_any_walk.nd rfl (.inl rfl))) (fun _ _ _ _ _ => pts_nil) (fun _ _ _ _ _ => (pe_op op_rep (pe_lst (pa_cons pe_int pa_nil)) (pv 1)))) (pa_cons (pe_call Dlaw_order.G (hr.mono (by first | decide | omega)) rfl Dlaw_order.g Dlaw_order.kp Dlaw_order.b .nil pass0 (pa_cons (pv 0) (pa_cons (pv 1) pa_nil))) (pa_cons pe_int pa_nil))) (by rfl))
 (pss_cons (ps_for PassesOwn.never rfl (pi_range1 (by rfl) M.range (pa_cons (pv 1) pa_nil)) (pg_name (i := 5) c_law_any_walk.nd rfl (.inl rfl))
 (pss_one (ps_if (pt_cmpR op_lt (pv 4) (pv 1) (nomark _))
 (pss_cons (ps_set (i := 6) c_law_any_walk.nd rfl (.inl rfl) (pe_op op_add pe_int (pe_call Dlaw_draw.G (hr.mono (by first | decide | omega)) rfl Dlaw_draw.g Dlaw_draw.kp Dlaw_draw.b .nil pass0 (pa_cons (pv 0) (pa_cons (pe_op op_sub (pv 1) (pv 4)) pa_nil)))))
 (pss_cons (ps_set (i := 7) c_law_any_walk.nd rfl (.inl rfl) (pe_op op_cat (pe_lst (pa_cons (pe_ix ix_list (pv 3) (pe_call Dlaw_draw.G (hr.mono (by first | decide | omega)) rfl Dlaw_draw.g Dlaw_draw.kp Dlaw_draw.b .nil pass0 (pa_cons (pv 0) (pa_cons (pv 4) pa_nil))) (fun _ _ => rfl)) pa_nil)) (pe_slice sl_list (pv 3) (po_some (pv 4)) (po_some (pe_op op_add (pv 4) (pv 6))))))
 (pss_cons (ps_expr (pe_bm PySem.F.plainAttrs_list PySem.F.slot_list_append PySem.F.type_list_append mt_append (pv 7) (pa_cons (pe_ix ix_list (pv 3) (pe_call Dlaw_draw.G (hr.mono (by first | decide | omega)) rfl Dlaw_draw.g Dlaw_draw.kp Dlaw_draw.b .nil pass0 (pa_cons (pv 0) (pa_cons (pv 4) pa_nil))) (fun _ _ => rfl)) pa_nil)))
 (pss_cons (ps_for PassesOwn.never rfl (pi_range1 (by rfl) M.range (pa_cons (pe_op op_sub (pe_callB call_len_seq (by rfl) M.len (by decide +kernel) (pa_cons (pv 7) pa_nil)) pe_int) pa_nil)) (pg_name (i := 8) c_law_any_walk.nd rfl (.inl rfl))
 (pss_one (ps_asg (pe_op op_add pe_int (pe_call Dlaw_draw.G (hr.mono (by first | decide | omega)) rfl Dlaw_draw.g Dlaw_draw.kp Dlaw_draw.b .nil pass0 (pa_cons (pv 0) (pa_cons pe_int pa_nil)))) (pg_sub (pe_ix ix_list (pv 2) (pe_ix ix_list (pv 7) (pv 8) (fun _ _ => rfl)) (fun _ _ => rfl)) (pe_ix ix_list (pv 7) (pe_op op_add (pv 8) pe_int) (fun _ _ => rfl)) set_list))))
 (pss_one (ps_set (i := 4) c_law_any_walk.nd rfl (.inl rfl) (pe_op op_add (pv 4) (pv 6))))))))
 pss_nil)))
 (pss_cons (ps_for PassesOwn.never rfl (pi_range1 (by rfl) M.range (pa_cons (pv 1) pa_nil)) (pg_name (i := 9) c_law_any_walk.nd rfl (.inl rfl))
 (pss_one (ps_for PassesOwn.never rfl (pi_range1 (by rfl) M.range (pa_cons (pv 1) pa_nil)) (pg_name (i := 10) c_law_any_walk.nd rfl (.inl rfl))
 (pss_one (ps_if (PW.pt (pw_and (pt_cmpR op_eq (pe_ix ix_list (pe_ix ix_list (pv 2) (pv 9) (fun _ _ => rfl)) (pv 10) (fun _ _ => rfl)) pe_int (nomark _)) (pw_and1 (pt_cmpR op_eq (pe_call Dlaw_draw.G (hr.mono (by first | decide | omega)) rfl Dlaw_draw.g Dlaw_draw.kp Dlaw_draw.b .nil pass0 (pa_cons (pv 0) (pa_cons pe_int pa_nil))) pe_int (nomark _)))))
 (pss_one (ps_asg (pe_op op_add pe_int (pe_call Dlaw_draw.G (hr.mono (by first | decide | omega)) rfl Dlaw_draw.g Dlaw_draw.kp Dlaw_draw.b .nil pass0 (pa_cons (pv 0) (pa_cons pe_int pa_nil)))) (pg_sub (pe_ix ix_list (pv 2) (pv 9) (fun _ _ => rfl)) (pv 10) set_list)))
 pss_nil)))))
 (pss_cons (ps_if (pt_cmpR op_eq (pv 1) pe_int (nomark _))
 (pss_one (ps_set (i := 2) c_law_any_walk.nd rfl (.inl rfl) (pe_lst (pa_cons (pe_lst (pa_cons pe_int pa_nil)) pa_nil))))
 pss_nil)
 (pss_one (ps_ret (pe_callTy call_tuple_of (by rfl) M.tuple (by decide +kernel) (pa_cons (pe_lc (own := [("each", 11)]) rfl c_law_any_walk.nd (pi_list (pv 2)) (blkOk_by (own := [("each", 11)]) (N := n_law_any_walk) (sc := defScope s_law_any_walk) (by decide +kernel)) (fun _ _ _ _ _ => (pg_name (i := 11) c_law_any_walk.nd rfl (.inr rfl))) (fun _ _ _ _ _ => pts_nil) (fun _ _ _ _ _ => (pe_callTy (call_tupK (K := K) rfl) (by rfl) M.tuple (by decide +kernel) (pa_cons (by exact (pe_lc (own := [("x", 12)]) rfl c_law_any_walk.nd (pi_listK (K := K) rfl (pv 11)) (blkOk_by (by rfl)) (fun _ _ _ _ _ => (pg_name (i := 12) c_law_any_walk.nd rfl (.inl rfl))) (fun _ _ _ _ _ => pts_nil) (fun _ _ _ _ _ => (pe_call Dlaw_low.G (hr.mono (by first | decide | omega)) rfl Dlaw_low.g Dlaw_low.kp Dlaw_low.b .nil pass0 (pa_cons (pv 12) (pa_cons (pe_callB (id := "sum") (show CallR _ _ (rSum K) from cr_sum rfl) (by rfl) M.sum (by decide +kernel) (pa_cons (pv 11) pa_nil)) pa_nil)))))) pa_nil)))) pa_nil)))))))), ?_⟩
    have up : ∀ {H' H'' : Hp} {a b : Addr}, (a = l ∨ H a = none) → (b = a ∨ H' b = none) → Kp (At w) H H' → WellAt w b H'' → (b = l ∨ H b = none) := fun {H' H'' a b} ha hb k W => by
      rcases hb with hb | hb
      · rw [hb]
        exact ha
      · exact .inr (kp_free k hb (by
          obtain ⟨_, _, _, _, e, _⟩ := W
          exact e))
    have em : ((n : Nat) : Int).toNat = n := Int.toNat_natCast n
    -- rows of nothing
    refine ⟨_, rfl, _, rfl, by omega, by omega, fun D nD => ?_⟩
    rw [em]
    refine lc_it (walk_range (lo := 0) (n := n)) (fun i H' => Same H H' ∧ ∃ rs : List Addr, H' D = some (.lst (rs.map V.ref)) ∧ rs.length = i ∧ (∀ (i j : Nat) r, rs[i]? = some r → rs[j]? = some r → i = j) ∧ ∀ r ∈ rs, r ≠ D ∧ H r = none ∧ H' r = some (.lst (List.replicate n (.int 0))))
      ⟨same_new nD, [], upd_same, rfl, fun i j r e => by simp at e, fun r hr => by simp at hr⟩ (fun i H _ p => trivial) ?_ ?_
    · rintro i x _ H2 hi ⟨s2, rs, eD, hl, nd, hrs⟩ ⟨rfl, rfl⟩
      refine ⟨rfl, ?_⟩
      unfold tYes
      refine ifT rfl ?_
      refine ⟨sz63 (by show 1 ≤ 1000; decide), fun u nu => ⟨_, rfl, u, _, _, rfl, rfl, upd_same, by omega, by omega, ?_, fun r nr => ?_⟩⟩
      · refine sz63 ?_
        show 1 * ((n : Int)).toNat ≤ 1000
        omega
      have en : (List.replicate ((n : Int)).toNat [V.int 0]).flatten = List.replicate n (.int 0) := by
        rw [Int.toNat_natCast]
        exact List.flatten_replicate_singleton
      rw [en]
      have s3 : Same H2 (upd (upd H2 u (.lst [.int 0])) r (.lst (List.replicate n (.int 0)))) := (same_new nu).trans (same_new nr)
      have er : (upd (upd H2 u (.lst [.int 0])) r (.lst (List.replicate n (.int 0)))) r = some (.lst (List.replicate n (.int 0))) := upd_same
      have r2 : H2 r = none := (same_new nu).free nr
      generalize upd (upd H2 u (.lst [.int 0])) r (.lst (List.replicate n (.int 0))) = H3 at s3 er
      have eD3 := s3 _ _ eD
      have rD : r ≠ D := Ne.symm (ne_of_none eD r2)
      have keepL : ∀ {a : Addr} {o : HO} {acc : List V}, a ≠ D → H3 a = some o → (upd H3 D (.lst acc)) a = some o := fun ne e => by
        rw [upd_ne ne]
        exact e
      refine ⟨_, eD3, by rw [List.length_map]; exact sz63' (by omega), same_mut (s2.trans s3) nD, rs ++ [r], by rw [upd_same, List.map_append]; rfl, by rw [List.length_append, hl]; rfl, fun a b x ea eb => ?_, fun x hx => ?_⟩
      · have nin : ∀ (c : Nat), rs[c]? ≠ some r := fun c ec => by
          have h3 := (hrs r (List.mem_of_getElem? ec)).2.2
          rw [r2] at h3
          cases h3
        have la := (List.getElem?_eq_some_iff.mp ea).1
        have lb := (List.getElem?_eq_some_iff.mp eb).1
        rw [List.length_append, List.length_singleton] at la lb
        by_cases ca : a < rs.length
        · rw [List.getElem?_append_left ca] at ea
          by_cases cb : b < rs.length
          · rw [List.getElem?_append_left cb] at eb
            exact nd a b x ea eb
          · rw [List.getElem?_append_right (by omega), show b - rs.length = 0 by omega] at eb
            have : r = x := by simpa using eb
            rw [← this] at ea
            exact absurd ea (nin a)
        · rw [List.getElem?_append_right (by omega), show a - rs.length = 0 by omega] at ea
          have hx : r = x := by simpa using ea
          by_cases cb : b < rs.length
          · rw [List.getElem?_append_left cb, ← hx] at eb
            exact absurd eb (nin b)
          · omega
      · rcases List.mem_append.mp hx with hx | hx
        · obtain ⟨g1, g2, g3⟩ := hrs x hx
          exact ⟨g1, g2, keepL g1 (s3 _ _ g3)⟩
        · have : x = r := by simpa using hx
          subst this
          exact ⟨rD, s2.free r2, keepL rD er⟩
    rintro H2 ⟨s2, rs, eD, rl, rnd, hrs⟩
    obtain ⟨own1, h1, oD1, ro1⟩ : ∃ own1, OwnH H H2 w l own1 ∧ own1 D = some (rs.map V.ref) ∧ RowsI own1 rs n fun _ _ => 0 := by
      refine ⟨fun b => if b ∈ rs then (match H2 b with | some (.lst xs) => some xs | _ => none) else setO (fun _ => none) D (rs.map V.ref) b, ⟨Kp.same s2, well_sameS hW s2, fun a xs e => ?_⟩, ?_, ⟨rl, rnd, fun i r e => ?_⟩⟩
      · by_cases c : a ∈ rs
        · rw [if_pos c] at e
          obtain ⟨g1, g2, g3⟩ := hrs a c
          rw [g3] at e
          obtain rfl := Option.some.inj e
          exact ⟨g3, g2, (hW.ne g2).1, (hW.ne g2).2⟩
        · rw [if_neg c] at e
          by_cases c2 : a = D
          · subst c2
            rw [setO_same] at e
            obtain rfl := Option.some.inj e
            exact ⟨eD, nD, (hW.ne nD).1, (hW.ne nD).2⟩
          · rw [setO_ne c2] at e
            cases e
      · show (if D ∈ rs then _ else _) = _
        rw [if_neg fun z => (hrs D z).1 rfl]
        exact setO_same
      · obtain ⟨g1, g2, g3⟩ := hrs r (List.mem_of_getElem? e)
        show (if r ∈ rs then _ else _) = _
        rw [if_pos (List.mem_of_getElem? e), g3]
        show some (List.replicate n (V.int 0)) = some (rowN n fun _ => 0)
        congr 1
        unfold rowN nats
        rw [List.map_map]
        exact (List.eq_replicate_iff.mpr ⟨by rw [List.length_map, List.length_range], fun b hb => by
          obtain ⟨_, _, rfl⟩ := List.mem_map.mp hb
          rfl⟩).symm
    have rsD : ∀ r ∈ rs, r ≠ D := fun r hr => (hrs r hr).1
    have rsH : ∀ r ∈ rs, ∃ o, H2 r = some o := fun r hr => ⟨_, (hrs r hr).2.2⟩
    have eDo : ∃ o, H2 D = some o := ⟨_, eD⟩
    clear hrs rnd eD s2 nD
    -- an order
    refine ⟨_, rfl, _, rfl, w, l, n, rfl, by omega, h1.W, fun H3 l3 oA u k3 W3 hl3 o0 ow ol eO pu => ?_⟩
    refine ⟨_, _, _, rfl, ?_⟩
    have h3 := (h1.pick k3 W3 hl3).ext eO (kp_free h1.kp o0 ow) ow ol
    have q3 := up (.inl rfl) hl3 h1.kp W3
    have oo : D ≠ oA := by
      obtain ⟨o, e⟩ := eDo
      exact ne_of_none e o0
    have ro : ∀ r ∈ rs, r ≠ oA := fun r hr => by
      obtain ⟨o, e⟩ := rsH r hr
      exact ne_of_none e o0
    have oO3 : setO own1 oA (nats u) oA = some (nats u) := setO_same
    have oD3 : setO own1 oA (nats u) D = some (rs.map V.ref) := by
      rw [setO_ne oo]
      exact oD1
    have ro3 := ro1.mono (own' := setO own1 oA (nats u)) fun r hr => setO_ne (ro r hr)
    generalize setO own1 oA (nats u) = own3 at h3 oO3 oD3 ro3
    clear h1 oD1 ro1 own1 k3 W3 hl3 o0 ow ol eO eDo rsH
    have ul : u.length = n := by
      have := pu.length_eq
      rwa [List.length_range] at this
    have ult : ∀ {i x : Nat}, u[i]? = some x → x < n := fun e => List.mem_range.mp (pu.mem_iff.mp (List.mem_of_getElem? e))
    have ugt : ∀ i, i < n → u[i]? = some (u.getD i 0) := fun i hi => by
      rw [List.getD_eq_getElem?_getD, List.getElem?_eq_getElem (by omega)]
      rfl
    dsimp only
    have gd : ∀ i, i < n → u.getD i 0 < n := fun i hi => ult (ugt i hi)
    -- ways from what is known through new ones
    refine seq_cut (fun σ H' => ∃ l' own c y4 y5 y6 y7 y8, σ = [some (.ref w), some (.int (n : Nat)), some (.ref D), some (.ref oA), y4, y5, y6, y7, y8, none, none, none, none] ∧ (l' = l ∨ H l' = none) ∧ OwnH H H' w l' own ∧ own oA = some (nats u) ∧ own D = some (rs.map V.ref) ∧ RowsI own rs n c ∧ AnyC n (fun i => u.getD i 0) n c) ?_ ?_
    rotate_left
    · intro N' hN
      refine ⟨_, rfl, _, rfl, by omega, by omega, ?_⟩
      refine for_range (lo := 0) (n := n) (fun t σ H' => ∃ l' own c, ∃ kn : Nat, ∃ y5 y6 y7 y8, σ = [some (.ref w), some (.int (n : Nat)), some (.ref D), some (.ref oA), some (.int (kn : Nat)), y5, y6, y7, y8, none, none, none, none] ∧ (l' = l ∨ H l' = none) ∧ OwnH H H' w l' own ∧ own oA = some (nats u) ∧ own D = some (rs.map V.ref) ∧ RowsI own rs n c ∧ 1 ≤ kn ∧ kn ≤ n ∧ (t + 1 ≤ kn ∨ kn = n) ∧ AnyC n (fun i => u.getD i 0) kn c)
        ⟨l3, own3, _, 1, _, _, _, _, rfl, q3, h3, oO3, oD3, ro3, by omega, n1, by omega, ⟨fun _ _ => by show 0 ≤ 3; omega, fun a b ha hb => by
          have e1 : a = 0 := by omega
          have e2 : b = 0 := by omega
          rw [e1, e2]
          exact .refl⟩⟩ ?_ ?_
      · clear h3 oO3 oD3 ro3 q3 own3
        rintro t σ H4 ht ⟨l4, own4, c4, kn, y5, y6, y7, y8, rfl, q4, h4, oO4, oD4, ro4, k1, kn', prog, ac4⟩
        refine ⟨_, rfl, _, rfl, _, _, rfl, rfl, _, rfl, ite2 (fun c0 => ?_) (fun c0 => ?_)⟩
        · have kl : kn < n := by
            have := of_decide_eq_true c0
            omega
          -- how many new ones
          refine ⟨_, rfl, _, rfl, _, rfl, _, _, rfl, rfl, w, l4, _, rfl, by omega, by omega, h4.W, fun H5 d l5 d0 d1 k5 W5 hl5 => ⟨_, _, rfl, rfl, ?_⟩⟩
          obtain ⟨f, rfl⟩ : ∃ f : Nat, d = (f : Int) := ⟨d.toNat, by omega⟩
          have ef : (1 : Int) + ((f : Nat) : Int) = ((f + 1 : Nat) : Int) := by omega
          dsimp only
          rw [ef]
          have h5 := h4.pick k5 W5 hl5
          have q5 := up q4 hl5 h4.kp W5
          clear h4 k5 W5 hl5 q4
          -- the way
          refine ⟨_, rfl, _, rfl, _, rfl, w, l5, _, rfl, by omega, by omega, h5.W, fun H6 ds l6 ds0 ds1 k6 W6 hl6 => ?_⟩
          obtain ⟨s, rfl⟩ : ∃ s : Nat, ds = (s : Int) := ⟨ds.toNat, by omega⟩
          have h6 := h5.pick k6 W6 hl6
          have q6 := up q5 hl6 h5.kp W6
          clear h5 k6 W6 hl6 q5
          have sk : s < kn := by omega
          have es := ugt s (by omega)
          refine ⟨oA, nats u, (s : Int), .int (u.getD s 0 : Nat), rfl, rfl, .of (h6.own _ _ oO4).1, atI_nat (by unfold nats; rw [List.getElem?_map, es]; rfl), sz63 (by show 1 ≤ 1000; decide), fun wA nwA => ?_⟩
          have h7 := h6.new (o := .lst [.int (u.getD s 0 : Nat)]) nwA
          have e7 : (upd H6 wA (.lst [.int (u.getD s 0 : Nat)])) wA = some (.lst [.int (u.getD s 0 : Nat)]) := upd_same
          generalize upd H6 wA (.lst [.int (u.getD s 0 : Nat)]) = H7 at h7 e7 ⊢
          clear h6 nwA
          refine ⟨_, rfl, _, rfl, _, rfl, _, rfl, _, rfl, _, _, rfl, rfl, _, rfl, oA, nats u, rfl, .of (h7.own _ _ oO4).1, fun pS npS => ?_⟩
          have eS : cutV (nats u) (some ((kn : Nat) : Int)) (some (((kn : Nat) : Int) + ((f + 1 : Nat) : Int))) = nats ((u.drop kn).take (f + 1)) := by
            have e : ((kn : Nat) : Int) + ((f + 1 : Nat) : Int) = ((kn + (f + 1) : Nat) : Int) := by omega
            rw [e]
            unfold cutV
            rw [HT.sIx_nat, HT.sIx_nat, nats_len, Nat.min_eq_left (by omega), Nat.min_eq_left (by omega), show kn + (f + 1) - kn = f + 1 by omega]
            unfold nats
            rw [List.map_take, List.map_drop]
          rw [eS]
          have e8w := same_new (o := .lst (nats ((u.drop kn).take (f + 1)))) npS _ _ e7
          have e8 : (upd H7 pS (.lst (nats ((u.drop kn).take (f + 1))))) pS = some (.lst (nats ((u.drop kn).take (f + 1)))) := upd_same
          have h8 := h7.new (o := .lst (nats ((u.drop kn).take (f + 1)))) npS
          generalize upd H7 pS (.lst (nats ((u.drop kn).take (f + 1)))) = H8 at h8 e8 e8w ⊢
          clear h7 e7 npS eS
          refine ⟨wA, pS, _, _, rfl, rfl, e8w, e8, sz63 (by rw [nats_len, List.length_take, List.length_drop, ul]; show 1 + _ ≤ 1000; omega), fun pW npW => ?_⟩
          have eW0 : [V.int (u.getD s 0 : Nat)] ++ nats ((u.drop kn).take (f + 1)) = nats (u.getD s 0 :: (u.drop kn).take (f + 1)) := rfl
          rw [eW0]
          have h9 := h8.add (ys := nats (u.getD s 0 :: (u.drop kn).take (f + 1))) npW
          have oW9 : setO own4 pW (nats (u.getD s 0 :: (u.drop kn).take (f + 1))) pW = some (nats (u.getD s 0 :: (u.drop kn).take (f + 1))) := setO_same
          have wO : oA ≠ pW := h8.ne npW oO4
          have wD : D ≠ pW := h8.ne npW oD4
          have wr : ∀ r ∈ rs, r ≠ pW := fun r hr => by
            obtain ⟨j, hj⟩ := List.mem_iff_getElem?.mp hr
            exact h8.ne npW (ro4.row j r hj)
          have oO9 : setO own4 pW (nats (u.getD s 0 :: (u.drop kn).take (f + 1))) oA = some (nats u) := by
            rw [setO_ne wO]
            exact oO4
          have oD9 : setO own4 pW (nats (u.getD s 0 :: (u.drop kn).take (f + 1))) D = some (rs.map V.ref) := by
            rw [setO_ne wD]
            exact oD4
          have ro9 := ro4.mono (own' := setO own4 pW (nats (u.getD s 0 :: (u.drop kn).take (f + 1)))) fun r hr => setO_ne (wr r hr)
          generalize upd H8 pW (.lst (nats (u.getD s 0 :: (u.drop kn).take (f + 1)))) = H9 at h9 ⊢
          generalize setO own4 pW (nats (u.getD s 0 :: (u.drop kn).take (f + 1))) = own9 at h9 oW9 oO9 oD9 ro9
          clear h8 e8 e8w npW oO4 oD4 ro4 eW0
          -- its end
          refine ⟨_, rfl, .inl ⟨rfl, _, .of (h9.own _ _ oW9).1⟩, _, rfl, _, rfl, _, rfl, w, l6, _, rfl, by omega, by omega, h9.W, fun HA dt lA dt0 dt1 kA WA hlA => ?_⟩
          obtain ⟨tt, rfl⟩ : ∃ s : Nat, dt = (s : Int) := ⟨dt.toNat, by omega⟩
          have hA := h9.pick kA WA hlA
          have qA := up q6 hlA h9.kp WA
          clear h9 kA WA hlA q6
          have tk : tt < kn := by omega
          have et := ugt tt (by omega)
          refine ⟨oA, nats u, (tt : Int), .int (u.getD tt 0 : Nat), rfl, rfl, .of (hA.own _ _ oO9).1, atI_nat (by unfold nats; rw [List.getElem?_map, et]; rfl), pW, _, _, rfl, rfl, (hA.own _ _ oW9).1, sz63' (by rw [nats_len, List.length_cons, List.length_take, List.length_drop, ul]; omega), ?_⟩
          obtain ⟨WL, eWL⟩ : ∃ WL, WL = u.getD s 0 :: (u.drop kn).take (f + 1) ++ [u.getD tt 0] := ⟨_, rfl⟩
          have eWL2 : nats (u.getD s 0 :: (u.drop kn).take (f + 1)) ++ [.int (u.getD tt 0 : Nat)] = nats WL := by
            rw [eWL]
            unfold nats
            rw [List.map_append]
            rfl
          rw [eWL2]
          have hB := hA.set (ys := nats WL) oW9
          have oWB : setO own9 pW (nats WL) pW = some (nats WL) := setO_same
          have oOB : setO own9 pW (nats WL) oA = some (nats u) := by
            rw [setO_ne wO]
            exact oO9
          have oDB : setO own9 pW (nats WL) D = some (rs.map V.ref) := by
            rw [setO_ne wD]
            exact oD9
          have roB := ro9.mono (own' := setO own9 pW (nats WL)) fun r hr => setO_ne (wr r hr)
          generalize upd HA pW (.lst (nats WL)) = HB at hB ⊢
          generalize setO own9 pW (nats WL) = ownB at hB oWB oOB oDB roB
          clear hA oW9 oO9 oD9 ro9 eWL2
          have lW : WL.length = f + 3 := by
            rw [eWL, List.length_append, List.length_cons, List.length_take, List.length_drop, ul, List.length_singleton]
            omega
          -- what stands on the way
          have w0 : WL[0]? = some (u.getD s 0) := by rw [eWL]; rfl
          have wm : ∀ i, i < f + 1 → WL[i + 1]? = some (u.getD (kn + i) 0) := fun i hi => by
            rw [eWL, List.getElem?_append_left (by rw [List.length_cons, List.length_take, List.length_drop, ul]; omega)]
            show ((u.drop kn).take (f + 1))[i]? = _
            rw [List.getElem?_take_of_lt hi, List.getElem?_drop, ugt _ (by omega)]
          have we : WL[f + 2]? = some (u.getD tt 0) := by
            rw [eWL, List.getElem?_append_right (by rw [List.length_cons, List.length_take, List.length_drop, ul]; omega)]
            have : f + 2 - (u.getD s 0 :: (u.drop kn).take (f + 1)).length = 0 := by
              rw [List.length_cons, List.length_take, List.length_drop, ul]
              omega
            rw [this]
            rfl
          have wlt : ∀ i x, WL[i]? = some x → x < n := fun i x e => by
            have m := List.mem_of_getElem? e
            rw [eWL] at m
            rcases List.mem_append.mp m with m | m
            · rcases List.mem_cons.mp m with rfl | m
              · exact gd s (by omega)
              · obtain ⟨j, hj⟩ := List.mem_iff_getElem?.mp (List.mem_of_mem_drop (List.mem_of_mem_take m))
                exact ult hj
            · rw [List.mem_singleton.mp m]
              exact gd tt (by omega)
          have wgt : ∀ i, i < f + 3 → WL[i]? = some (WL.getD i 0) := fun i hi => by
            rw [List.getD_eq_getElem?_getD, List.getElem?_eq_getElem (by omega)]
            rfl
          clear eWL
          dsimp only [tNext]
          refine seq_cut (fun σ H' => ∃ l' own c y5 y8, σ = [some (.ref w), some (.int (n : Nat)), some (.ref D), some (.ref oA), some (.int (kn : Nat)), y5, some (.int (f + 1 : Nat)), some (.ref pW), y8, none, none, none, none] ∧ (l' = l ∨ H l' = none) ∧ OwnH H H' w l' own ∧ own oA = some (nats u) ∧ own D = some (rs.map V.ref) ∧ RowsI own rs n c ∧ AnyC n (fun i => u.getD i 0) (kn + (f + 1)) c) ?_ ?_
          rotate_left
          · intro N2 hN2
            refine ⟨_, rfl, pW, _, rfl, .inl (.of (hB.own _ _ oWB).1), _, _, rfl, rfl, _, rfl, by rw [nats_len]; omega, by rw [nats_len]; omega, ?_⟩
            have en : (((nats WL).length : Int) - 1).toNat = f + 2 := by
              rw [nats_len, lW]
              omega
            rw [en]
            refine for_range (lo := 0) (n := f + 2) (fun i σ H' => ∃ l' own c y5 y8, σ = [some (.ref w), some (.int (n : Nat)), some (.ref D), some (.ref oA), some (.int (kn : Nat)), y5, some (.int (f + 1 : Nat)), some (.ref pW), y8, none, none, none, none] ∧ (l' = l ∨ H l' = none) ∧ OwnH H H' w l' own ∧ own oA = some (nats u) ∧ own D = some (rs.map V.ref) ∧ RowsI own rs n c ∧ own pW = some (nats WL) ∧ AnyC n (fun i => u.getD i 0) kn c ∧ ∀ j, j < i → 0 < c (WL.getD j 0) (WL.getD (j + 1) 0))
              ⟨lA, ownB, c4, _, _, rfl, qA, hB, oOB, oDB, roB, oWB, ac4, fun j hj => absurd hj (Nat.not_lt_zero j)⟩ ?_ ?_
            · clear hB oWB oOB oDB roB qA ac4 ownB
              rintro i σ H5 hi ⟨l5, own5, c5, y5', y8', rfl, q5, h5, oO5, oD5, ro5, oW5, ac5, up5⟩
              have e0 : (0 : Int) + ((i : Nat) : Int) = ((i : Nat) : Int) := by omega
              rw [e0]
              refine ⟨_, rfl, w, l5, _, rfl, by omega, by omega, h5.W, fun H6 d l6 d0 d1 k6 W6 hl6 => ?_⟩
              obtain ⟨d, rfl⟩ : ∃ s : Nat, d = (s : Int) := ⟨d.toNat, by omega⟩
              have h6 := h5.pick k6 W6 hl6
              have q6 := up q5 hl6 h5.kp W6
              have x0 := wgt i (by omega)
              have x1 := wgt (i + 1) (by omega)
              have xn := wlt _ _ x0
              have yn := wlt _ _ x1
              obtain ⟨r, er, oR⟩ := ro5.at xn
              have rm := List.mem_of_getElem? er
              have ei1 : ((i : Nat) : Int) + 1 = ((i + 1 : Nat) : Int) := by omega
              have ed : (1 : Int) + ((d : Nat) : Int) = ((1 + d : Nat) : Int) := by omega
              refine ⟨_, _, rfl, rfl, _, rfl, _, rfl, _, rfl, pW, nats WL, (i : Int), .int (WL.getD i 0 : Nat), rfl, rfl, .of (h6.own _ _ oW5).1, atI_nat (by unfold nats; rw [List.getElem?_map, x0]; rfl), D, _, ((WL.getD i 0 : Nat) : Int), .ref r, rfl, rfl, .of (h6.own _ _ oD5).1, atI_nat (by rw [List.getElem?_map, er]; rfl), _, rfl, _, rfl, _, _, rfl, rfl, ?_⟩
              dsimp only
              rw [ei1, ed]
              refine ⟨pW, nats WL, ((i + 1 : Nat) : Int), .int (WL.getD (i + 1) 0 : Nat), rfl, rfl, .of (h6.own _ _ oW5).1, atI_nat (by unfold nats; rw [List.getElem?_map, x1]; rfl), r, _, ((WL.getD (i + 1) 0 : Nat) : Int), WL.getD (i + 1) 0, rfl, rfl, (h6.own _ _ oR).1, ixNat (by rw [rowN_len]; exact yn), ?_⟩
              refine ⟨l6, _, setC c5 (WL.getD i 0) (WL.getD (i + 1) 0) (1 + d), _, _, rfl, q6, h6.set (ys := (rowN n (c5 (WL.getD i 0))).set (WL.getD (i + 1) 0) (.int ((1 + d : Nat) : Int))) oR, ?_, ?_, ro5.set er, ?_, ac5.set _ _ _ (by omega) (by omega), fun j hj => ?_⟩
              · rw [setO_ne (Ne.symm (ro r rm))]
                exact oO5
              · rw [setO_ne (Ne.symm (rsD r rm))]
                exact oD5
              · rw [setO_ne (Ne.symm (wr r rm))]
                exact oW5
              · unfold setC
                by_cases z : j = i
                · rw [z, if_pos ⟨rfl, rfl⟩]
                  omega
                · split
                  · omega
                  · exact up5 j (by omega)
            · rintro σ H5 ⟨l5, own5, c5, y5', y8', rfl, q5, h5, oO5, oD5, ro5, oW5, ac5, up5⟩
              refine hN2 _ _ ⟨l5, own5, c5, _, _, rfl, q5, h5, oO5, oD5, ro5, ac5.lt, ?_⟩
              refine ear_step (g := fun i => WL.getD i 0) sk tk ?_ (fun i hi => ?_) ?_ (fun i hi => ?_) ac5.con
              · exact Option.some.inj ((wgt 0 (by omega)).symm.trans w0)
              · exact Option.some.inj ((wgt (i + 1) (by omega)).symm.trans (wm i hi))
              · exact Option.some.inj ((wgt (f + 2) (by omega)).symm.trans we)
              · exact ⟨wlt _ _ (wgt i (by omega)), wlt _ _ (wgt (i + 1) (by omega)), up5 i (by omega)⟩
          rintro σ H5 ⟨l5, own5, c5, y5', y8', rfl, q5, h5, oO5, oD5, ro5, ac5⟩
          refine ⟨_, rfl, _, rfl, _, _, rfl, rfl, ?_⟩
          have ek : ((kn : Nat) : Int) + ((f + 1 : Nat) : Int) = ((kn + (f + 1) : Nat) : Int) := by omega
          exact ⟨l5, own5, c5, kn + (f + 1), y5', some (.int (f + 1 : Nat)), some (.ref pW), y8', by rw [← ek]; rfl, q5, h5, oO5, oD5, ro5, by omega, by omega, by omega, ac5⟩
        · have kl : ¬ kn < n := fun z => c0 (decide_eq_true (by omega))
          exact ⟨l4, own4, c4, kn, _, _, _, _, rfl, q4, h4, oO4, oD4, ro4, k1, kn', by omega, ac4⟩
      · rintro σ H4 ⟨l4, own4, c4, kn, y5, y6, y7, y8, rfl, q4, h4, oO4, oD4, ro4, k1, kn', prog, ac4⟩
        have e : kn = n := by omega
        rw [e] at ac4
        exact hN _ _ ⟨l4, own4, c4, _, _, _, _, _, rfl, q4, h4, oO4, oD4, ro4, ac4⟩
    clear h3 oO3 oD3 ro3 q3 own3
    rintro σ H4 ⟨l4, own4, c4, y4, y5, y6, y7, y8, rfl, q4, h4, oO4, oD4, ro4, ac4⟩
    -- some more
    refine seq_cut (fun σ H' => ∃ l' own c y3 y4 y5 y6 y7 y8 y9 y10, σ = [some (.ref w), some (.int (n : Nat)), some (.ref D), y3, y4, y5, y6, y7, y8, y9, y10, none, none] ∧ (l' = l ∨ H l' = none) ∧ OwnH H H' w l' own ∧ own D = some (rs.map V.ref) ∧ RowsI own rs n c ∧ AnyC n (fun i => u.getD i 0) n c) ?_ ?_
    rotate_left
    · intro N' hN
      refine ⟨_, rfl, _, rfl, by omega, by omega, ?_⟩
      refine for_range (lo := 0) (n := n) (fun i σ H' => ∃ l' own c y4 y5 y6 y7 y8 y9 y10, σ = [some (.ref w), some (.int (n : Nat)), some (.ref D), some (.ref oA), y4, y5, y6, y7, y8, y9, y10, none, none] ∧ (l' = l ∨ H l' = none) ∧ OwnH H H' w l' own ∧ own D = some (rs.map V.ref) ∧ RowsI own rs n c ∧ AnyC n (fun i => u.getD i 0) n c)
        ⟨l4, own4, c4, _, _, _, _, _, _, _, rfl, q4, h4, oD4, ro4, ac4⟩ ?_ (fun σ H' ⟨l', own, c, y4, y5, y6, y7, y8, y9, y10, e, r⟩ => hN σ H' ⟨l', own, c, _, _, _, _, _, _, _, _, e, r⟩)
      clear h4 oO4 oD4 ro4 q4 own4 ac4
      rintro i σ H5 hi ⟨l5, own5, c5, y4', y5', y6', y7', y8', y9', y10', rfl, q5, h5, oD5, ro5, ac5⟩
      have e0 : (0 : Int) + ((i : Nat) : Int) = ((i : Nat) : Int) := by omega
      rw [e0]
      refine ⟨_, rfl, _, rfl, by omega, by omega, ?_⟩
      refine for_range (lo := 0) (n := n) (fun j σ H' => ∃ l' own c y10, σ = [some (.ref w), some (.int (n : Nat)), some (.ref D), some (.ref oA), y4', y5', y6', y7', y8', some (.int (i : Nat)), y10, none, none] ∧ (l' = l ∨ H l' = none) ∧ OwnH H H' w l' own ∧ own D = some (rs.map V.ref) ∧ RowsI own rs n c ∧ AnyC n (fun i => u.getD i 0) n c)
        ⟨l5, own5, c5, _, rfl, q5, h5, oD5, ro5, ac5⟩ ?_ (fun σ H' ⟨l', own, c, y10, e, r⟩ => ⟨l', own, c, _, _, _, _, _, _, _, e, r⟩)
      clear h5 oD5 ro5 q5 own5 ac5
      rintro j σ H6 hj ⟨l6, own6, c6, y10'', rfl, q6, h6, oD6, ro6, ac6⟩
      have e1 : (0 : Int) + ((j : Nat) : Int) = ((j : Nat) : Int) := by omega
      rw [e1]
      obtain ⟨r, er, oR⟩ := ro6.at hi
      have rm := List.mem_of_getElem? er
      refine ⟨_, rfl, _, rfl, D, _, (i : Int), .ref r, rfl, rfl, .of (h6.own _ _ oD6).1, atI_nat (by rw [List.getElem?_map, er]; rfl), _, rfl, r, _, (j : Int), _, rfl, rfl, .of (h6.own _ _ oR).1, atI_nat (rowN_at (c6 i) hj), rfl, _, rfl, ite2 (fun c0 => ?_) (fun c0 => ?_)⟩
      · refine ⟨_, rfl, w, l6, _, rfl, by omega, by omega, h6.W, fun H7 d l7 d0 d1 k7 W7 hl7 => ?_⟩
        have h7 := h6.pick k7 W7 hl7
        have q7 := up q6 hl7 h6.kp W7
        refine ⟨rfl, _, rfl, ite2 (fun c1 => ?_) (fun c1 => ⟨l7, own6, c6, _, rfl, q7, h7, oD6, ro6, ac6⟩)⟩
        refine ⟨_, rfl, w, l7, _, rfl, by omega, by omega, h7.W, fun H8 d l8 d0 d1 k8 W8 hl8 => ?_⟩
        have h8 := h7.pick k8 W8 hl8
        have q8 := up q7 hl8 h7.kp W8
        obtain ⟨d, rfl⟩ : ∃ s : Nat, d = (s : Int) := ⟨d.toNat, by omega⟩
        have ed : (1 : Int) + ((d : Nat) : Int) = ((1 + d : Nat) : Int) := by omega
        refine ⟨_, _, rfl, rfl, _, rfl, _, rfl, D, _, (i : Int), .ref r, rfl, rfl, .of (h8.own _ _ oD6).1, atI_nat (by rw [List.getElem?_map, er]; rfl), _, rfl, ?_⟩
        dsimp only
        rw [ed]
        refine ⟨r, _, (j : Int), j, rfl, rfl, (h8.own _ _ oR).1, ixNat (by rw [rowN_len]; exact hj), ?_⟩
        refine ⟨l8, _, setC c6 i j (1 + d), _, rfl, q8, h8.set (ys := (rowN n (c6 i)).set j (.int ((1 + d : Nat) : Int))) oR, ?_, ro6.set er, ac6.set _ _ _ (by omega) (by omega)⟩
        rw [setO_ne (Ne.symm (rsD r rm))]
        exact oD6
      · exact ⟨l6, own6, c6, _, rfl, q6, h6, oD6, ro6, ac6⟩
    clear h4 oO4 oD4 ro4 q4 own4 ac4
    rintro σ H5 ⟨l5, own5, c5, y3', y4', y5', y6', y7', y8', y9', y10', rfl, q5, h5, oD5, ro5, ac5⟩
    -- one place alone
    refine seq_cut (fun σ H' => ∃ D' rs' own c y3 y4 y5 y6 y7 y8 y9 y10, σ = [some (.ref w), some (.int (n : Nat)), some (.ref D'), y3, y4, y5, y6, y7, y8, y9, y10, none, none] ∧ OwnH H H' w l5 own ∧ own D' = some (rs'.map V.ref) ∧ RowsI own rs' n c ∧ (∀ i j, c i j ≤ 3) ∧ (∀ a b, a < n → b < n → Reach (EdN n c) a b) ∧ ∀ i, i < n → 0 < sN n (c i)) ?_ ?_
    rotate_left
    · intro N' hN
      refine ⟨_, rfl, rfl, _, rfl, ite2 (fun c0 => ?_) (fun c0 => ?_)⟩
      · have n1' : n = 1 := by
          have := V.int.inj (of_decide_eq_true c0)
          omega
        refine ⟨sz63 (by show 1 ≤ 1000; decide), fun r nr => ⟨sz63 (by show 1 ≤ 1000; decide), fun D' nD' => hN _ _ ?_⟩⟩
        have er1 : [V.int 1] = rowN n fun _ => 1 := by
          rw [n1']
          rfl
        have h6 : OwnH H (upd H5 r (.lst [V.int 1])) w l5 (setO own5 r [V.int 1]) := h5.add nr
        have h7 : OwnH H (upd (upd H5 r (.lst [V.int 1])) D' (.lst [V.ref r])) w l5 (setO (setO own5 r [V.int 1]) D' [V.ref r]) := h6.add nD'
        have ne : r ≠ D' := h6.ne nD' setO_same
        refine ⟨D', [r], _, fun _ _ => 1, _, _, _, _, _, _, _, _, rfl, h7, setO_same, ⟨by rw [n1']; rfl, fun i j x e1 e2 => ?_, fun i x e => ?_⟩, fun _ _ => by show 1 ≤ 3; decide, fun a b ha hb => ?_, fun i hi => ?_⟩
        · have l1 := (List.getElem?_eq_some_iff.mp e1).1
          have l2 := (List.getElem?_eq_some_iff.mp e2).1
          simp at l1 l2
          omega
        · have l1 := (List.getElem?_eq_some_iff.mp e).1
          have i0 : i = 0 := by
            simp at l1
            omega
          rw [i0] at e
          obtain rfl := Option.some.inj (show some r = some x from e)
          rw [setO_ne ne, setO_same, er1]
        · have e1 : a = b := by omega
          rw [e1]
          exact .refl
        · exact sN_pos hi (show 0 < 1 by decide)
      · have n2 : 2 ≤ n := by
          have : n ≠ 1 := fun z => c0 (by rw [z]; exact decide_eq_true rfl)
          omega
        have on : ∀ i, i < n → ∃ a, a < n ∧ u.getD a 0 = i := fun i hi => by
          obtain ⟨a, ha⟩ := List.mem_iff_getElem?.mp (pu.mem_iff.mpr (List.mem_range.mpr hi))
          have la := (List.getElem?_eq_some_iff.mp ha).1
          exact ⟨a, by omega, by rw [List.getD_eq_getElem?_getD, ha]; rfl⟩
        have con : ∀ a b, a < n → b < n → Reach (EdN n c5) a b := fun a b ha hb => by
          obtain ⟨x, hx, rfl⟩ := on a ha
          obtain ⟨y, hy, rfl⟩ := on b hb
          exact ac5.con x y hx hy
        refine hN _ _ ⟨D, rs, own5, c5, _, _, _, _, _, _, _, _, rfl, h5, oD5, ro5, ac5.lt, con, fun i hi => ?_⟩
        obtain ⟨b, hb, ne⟩ : ∃ b, b < n ∧ i ≠ b := by
          by_cases z : i = 0
          · exact ⟨1, by omega, by omega⟩
          · exact ⟨0, by omega, by omega⟩
        obtain ⟨x, _, e⟩ := reach_first (con i b hi hb) ne
        exact sN_pos e.2.1 e.2.2
    clear h5 oD5 ro5 own5 ac5 rsD oo ro
    rintro σ H6 ⟨D', rs', own6, c6, y3, y4, y5, y6, y7, y8, y9, y10, rfl, h6, oD6, ro6, lt6, con6, pos6⟩
    clear up ul ult ugt gd pu rl
    obtain ⟨MM, eM⟩ : ∃ MM, MM = (List.range n).map fun i => (List.range n).map fun j => c6 i j := ⟨_, rfl⟩
    have at6 : ∀ {i j}, i < n → j < n → mf MM i j = c6 i j := fun hi hj => by rw [eM]; exact sqM_at hi hj
    have rs6 : ∀ {i}, i < n → sN n (mf MM i) = sN n (c6 i) := fun hi => sN_congr fun j hj => at6 hi hj
    have wk : WkB 56 n MM := by
      refine ⟨n1, n6, by rw [sN_cst]; omega, by rw [eM]; simp, fun row hr => ?_, fun i j hi hj => ?_, fun a b ha hb => ?_, fun i hi => by rw [rs6 hi]; exact pos6 i hi⟩
      · rw [eM] at hr
        obtain ⟨i, _, rfl⟩ := List.mem_map.mp hr
        simp
      · rw [at6 hi hj]
        show c6 i j < 2 ^ 56
        have := lt6 i j
        have : (3 : Nat) < 2 ^ 56 := by decide
        omega
      · exact (con6 a b ha hb).mono fun x y e => ⟨e.1, e.2.1, by rw [at6 e.1 e.2.1]; exact e.2.2⟩
    have hwn : H6 w ≠ none := by
      obtain ⟨_, _, _, e, _⟩ := h6.W
      rw [e]
      exact fun z => nomatch z
    have hlen := ro6.len
    refine ⟨_, rfl, D', rfl, ⟨_, .of (h6.own _ _ oD6).1⟩, fun D2 nD2 => ?_⟩
    refine lc_rel (walk_list (K := K) (a := D') (xs := rs'.map V.ref)) No (fun H' i y => Dq (fun a => At w a ∨ a = D2) H' y (rowD ((List.range n).map fun j => chQ n (mf MM) i j)))
      (fun Ha Hb i v k r => r.keep (k.mono fun b z => z.elim (fun z => z.elim) .inr)) nD2 (fun _ z => z.elim) (by rw [List.length_map]; omega) (fun H' k' => .of (no_same k' _ _ (h6.own _ _ oD6).1)) ?_ ?_
    · rintro i x HB _ Q' hi kB nDB ⟨rfl, hx⟩ q'
      obtain ⟨r, hr, rfl⟩ := map_some hx
      have hin : i < n := by
        have := (List.getElem?_eq_some_iff.mp hr).1
        omega
      have sB := no_same kB
      have oR := ro6.row i r hr
      have eR := sB _ _ (h6.own _ _ oR).1
      refine ⟨rfl, _, rfl, r, rfl, ⟨_, .of eR⟩, fun D3 nD3 => ?_⟩
      refine lc_rel (walk_list (K := K) (a := r) (xs := rowN n (c6 i))) No (fun H' j y => ∃ p, y = .ref p ∧ p ≠ D3 ∧ p ≠ D2 ∧ p ≠ w ∧ H' p = some (.tup [.int (chQ n (mf MM) i j).num, .int (chQ n (mf MM) i j).den]))
        (fun H H' j v kp r => ?_) nD3 (fun _ z => z.elim) (by rw [rowN_len]; omega) (fun H' k' => .of (no_same k' _ _ eR)) ?_ ?_
      · obtain ⟨p, rfl, g1, g2, g3, e⟩ := r
        exact ⟨p, rfl, g1, g2, g3, kp _ _ (fun z => z.elim id g1) e⟩
      · rintro j x HC _ Q2 hj kC nDC ⟨rfl, hx2⟩ q2
        rw [rowN_len] at hj
        have sC := no_same kC
        rw [rowN_at (c6 i) hj] at hx2
        obtain rfl := Option.some.inj hx2
        have eR2 := sC _ _ eR
        have ens : rowN n (c6 i) = ((List.range n).map fun j => ((c6 i j : Nat) : Int)).map V.int := by
          unfold rowN nats
          rw [List.map_map, List.map_map]
          rfl
        rw [ens] at eR2
        have sm : ((List.range n).map fun j => ((c6 i j : Nat) : Int)).sum = ((sN n (c6 i) : Nat) : Int) := sumI_sN (c6 i) n
        have p6 := pos6 i hin
        have b6 := wk.rs_lt hin
        rw [rs6 hin] at b6
        refine ⟨rfl, _, rfl, _, rfl, r, _, rfl, .of eR2, ?_⟩
        rw [sm]
        refine ⟨(c6 i j : Nat), (sN n (c6 i) : Nat), 59, rfl, by omega, by rw [Int.natAbs_natCast]; exact b6, by decide, fun p np => ?_⟩
        have ech : Rat.divInt ((c6 i j : Nat) : Int) ((sN n (c6 i) : Nat) : Int) = chQ n (mf MM) i j := by
          unfold chQ
          rw [rs6 hin, at6 hin hj, Rat.divInt_eq_div, Rat.intCast_natCast, Rat.intCast_natCast]
          rfl
        rw [ech]
        refine q2 _ _ (Kp.new np) ⟨p, rfl, fun z => ?_, fun z => ?_, fun z => ?_, upd_same⟩
        · rw [z] at np
          exact nDC np
        · rw [z] at np
          exact nDB (sC.free np)
        · rw [z] at np
          exact hwn (sB.free (sC.free np))
      · rintro HC acc2 kC eDC hla2 ha2
        have sC := no_same kC
        rw [rowN_len] at hla2
        refine ⟨D3, acc2, rfl, .inl ⟨.of eDC, fun t nt => q' _ _ (Kp.same (sC.trans (same_new nt))) (.tup (fun z => ?_) upd_same (dqAll_of (by rw [List.length_map, List.length_map, List.length_range, hla2]) fun j v e => ?_))⟩⟩
        · rcases z with z | z
          · rw [show t = w from z] at nt
            exact hwn (sB.free (sC.free nt))
          · rw [z] at nt
            exact nDB (sC.free nt)
        · obtain ⟨p, rfl, g1, g2, g3, ep⟩ := ha2 j v e
          have hj : j < n := by
            have := (List.getElem?_eq_some_iff.mp e).1
            omega
          refine ⟨_, by rw [List.getElem?_map, List.getElem?_map, List.getElem?_range hj]; rfl, fr_dq (fun z => ?_) (same_new nt _ _ ep)⟩
          rcases z with z | z
          · exact g3 z
          · exact g2 z
    · rintro HB acc kB eDB hla ha
      have sB := no_same kB
      rw [List.length_map, hlen] at hla
      refine ⟨D2, acc, rfl, .inl ⟨.of eDB, fun t nt => ?_⟩⟩
      have WB := well_sameS h6.W sB
      refine q _ l5 _ MM ((h6.kp.trans (Kp.same sB)).trans (Kp.new nt)) (WB.new nt) q5 ?_ wk
      rw [wk.tab]
      refine .tup (WB.ne nt).1 upd_same ?_
      have all : DqAll (fun a => At w a ∨ a = D2) HB acc (((List.range n).map fun i => (List.range n).map fun j => chQ n (mf MM) i j).map rowD) := dqAll_of (by rw [List.length_map, List.length_map, List.length_range, hla]) fun i v e => by
        have hi : i < n := by
          have := (List.getElem?_eq_some_iff.mp e).1
          omega
        exact ⟨_, by rw [List.getElem?_map, List.getElem?_map, List.getElem?_range hi]; rfl, ha i v e⟩
      exact (all.keep (Kp.new nt)).weak fun b z => .inl z
end
end Kx
set_option exponentiation.threshold 4000
/-! A drawn walk is a walk; how long its chances are. -/
namespace Bw
open PySem
theorem sNnil {f : Nat → Nat} : ∀ {n : Nat}, (∀ i, i < n → f i = 0) → sN n f = 0
  | 0, _ => rfl
  | n + 1, h => by
    rw [sN, sNnil fun i hi => h i (by omega), h n (by omega)]
theorem wkRows {B n : Nat} {M : List (List Nat)} (wk : WkB B n M) : ∀ row ∈ M, ∃ k ∈ row, 0 < k := fun row hr => by
  obtain ⟨i, hi⟩ := List.mem_iff_getElem?.mp hr
  have hl := (List.getElem?_eq_some_iff.mp hi).1
  have hl2 := wk.l
  have p := wk.p i (by omega)
  by_cases c : ∃ k ∈ row, 0 < k
  · exact c
  · exfalso
    have : sN n (mf M i) = 0 := sNnil fun j hj => by
      rw [mf_row hi]
      show row.getD j 0 = 0
      rw [List.getD_eq_getElem?_getD]
      cases e : row[j]? with
      | none => rfl
      | some k =>
        by_cases z : 0 < k
        · exact absurd ⟨k, List.mem_of_getElem? e, z⟩ c
        · show k = 0
          omega
    omega
theorem wkIsw {B n : Nat} {M : List (List Nat)} (wk : WkB B n M) : IsWalk (tabD (walkM M)) := by
  have hp := wkRows wk
  have nd : ∀ {i j : Nat}, i < n → j < n → ∃ row k, M[i]? = some row ∧ row[j]? = some k ∧ k = mf M i j := fun {i j} hi hj => by
    obtain ⟨row, e, hl⟩ := wk.at hi
    have e2 : row[j]? = some (row[j]'(by omega)) := List.getElem?_eq_getElem (by omega)
    refine ⟨row, _, e, e2, ?_⟩
    rw [mf_row e]
    show _ = row.getD j 0
    rw [List.getD_eq_getElem?_getD, e2]
    rfl
  have T := walkM_tab wk.n1 wk.n6 wk.l wk.r hp
  refine ⟨_, rfl, T, fun a b ha hb => ?_, walkM_sum hp⟩
  rw [wk.len] at ha hb
  refine (wk.st a b ha hb).mono fun x y e => ?_
  obtain ⟨e1, e2, e3⟩ := e
  obtain ⟨row, k, g1, g2, g3⟩ := nd e1 e2
  exact walkM_ed hp g1 g2 (by omega)

theorem wkSz {B n : Nat} {M : List (List Nat)} (wk : WkB B n M) (h1 : 1 ≤ B) {i j : Nat} (hi : i < n) (hj : j < n) : Bq.Sz (B + (B + 3)) (chQ n (mf M) i j) :=
  (nat_sz (wk.k i j hi hj) h1).div (nat_sz (wk.rs_lt hi) (by omega)) (Bq.num_pos.mpr (nat_pos (wk.p i hi)))
theorem wkBd {B n : Nat} {M : List (List Nat)} (wk : WkB B n M) (h1 : 1 ≤ B) : Bd (B + (B + 3)) (tabD (walkM M)) := bd_tab.mpr fun r hr q hq => by
  rw [wk.tab] at hr
  obtain ⟨i, hi, rfl⟩ := List.mem_map.mp hr
  obtain ⟨j, hj, rfl⟩ := List.mem_map.mp hq
  exact wkSz wk h1 (List.mem_range.mp hi) (List.mem_range.mp hj)
end Bw
/-! Whether a truth value is another one. -/
namespace Bw
open PySem PySem.Spec PyProof.Rows L2
def rIsB : R2 := fun x y H Q => ∃ b c, x = .bl b ∧ y = .bl c ∧ Q (.bl (b == c)) H
theorem op_isB {X : Cx} : OpR X (compareOp .Is) rIsB := by
  intro pins s σ H x y v u Q I rx ry h
  obtain ⟨b, c, rfl, rfl, q⟩ := h
  cases rx
  cases ry
  show wpAny _ _ ((isSame (Value.bool b) (Value.bool c)) >>= fun z => pure (Value.bool z)) _ _ s
  refine wpAny_bind (wpAny_isSame_plain (by cases b <;> cases c <;> rfl) (wpAny_pure (fin_bl I q ?_)))
  cases b <;> cases c <;> rfl
end Bw
set_option exponentiation.threshold 4000
/-! Part 16. How long fractions are when they are printed. -/
namespace Bw
open PySem PySem.Spec PyProof.Rows L2
theorem tuple_len (ts : List Str) : (tupleText ts).length ≤ 3 + piled ts := by
  unfold tupleText
  have h1 : (Str.join ", " ts).length ≤ piled ts := by
    by_cases c : ts = []
    · subst c
      exact Nat.zero_le _
    · have := join_length_add ts c
      omega
  have h2 : (((if (ts.length == 1) = true then ",)" else ")" : String)) : Str).length ≤ 2 := by
    split <;> decide +kernel
  have h3 : (("(" : String) : Str).length = 1 := by decide +kernel
  rw [strLen_append, strLen_append]
  omega
theorem shown_tup_le {n m : Nat} {ds : List PyData} (h : ∀ d ∈ ds, d.shown.length ≤ n) (hl : ds.length ≤ m) : (PyData.tuple ds).shown.length ≤ 3 + (n + 2) * m := by
  simp only [PyData.shown]
  have h1 := tuple_len (PyData.shownAll ds)
  have h2 : piled (PyData.shownAll ds) ≤ (n + 2) * (PyData.shownAll ds).length := piled_le fun t ht => by
    rw [shownAll_map] at ht
    obtain ⟨d, hd, rfl⟩ := List.mem_map.mp ht
    exact h d hd
  have h3 : (PyData.shownAll ds).length = ds.length := by rw [shownAll_map, List.length_map]
  rw [h3] at h2
  have h4 : (n + 2) * ds.length ≤ (n + 2) * m := Nat.mul_le_mul_left _ hl
  omega
theorem log_small {i : Int} (h : i.natAbs < 2 ^ 1900) : i.natAbs.log2 < 1920 := by
  by_cases z : i.natAbs = 0
  · rw [z]
    decide
  · refine (Nat.log2_lt z).mpr (Nat.lt_of_lt_of_le h (Nat.pow_le_pow_right (by decide) (by omega)))
theorem int_ok {i : Int} (h : i.natAbs < 2 ^ 1900) : (PyData.int i).showable = true ∧ (PyData.int i).shown.length ≤ 1921 ∧ (PyData.int i).depth = 0 := by
  have hl := log_small h
  refine ⟨?_, ?_, by simp only [PyData.depth]⟩
  · simp only [PyData.showable]
    exact decide_eq_true hl
  · simp only [PyData.shown]
    exact int_text_len_1921 hl
theorem of_show {i : Int} (h : (PyData.int i).showable = true) : decide (i.natAbs.log2 < 1920) = true := by
  simpa only [PyData.showable] using h
theorem fr_ok {q : Rat} (h : Bq.Sz 1900 q) : (frD q).showable = true ∧ (frD q).shown.length ≤ 3849 ∧ (frD q).depth ≤ 1 := by
  have h1 := int_ok (i := q.num) h.1
  have h2 := int_ok (i := (q.den : Int)) (Bq.den_abs h)
  refine ⟨?_, ?_, ?_⟩
  · unfold frD
    simp only [PyData.showable, PyData.showableAll, Bool.and_true, Bool.and_eq_true]
    exact ⟨of_show h1.1, of_show h2.1⟩
  · refine shown_tup_le (n := 1921) (m := 2) (fun d hd => ?_) (Nat.le_refl 2)
    rcases List.mem_cons.mp hd with rfl | hd
    · exact h1.2.1
    · rw [List.mem_singleton.mp hd]
      exact h2.2.1
  · unfold frD
    simp only [PyData.depth, PyData.depthAll]
    decide
theorem pair_ok {p q : Rat} (hp : Bq.Sz 1900 p) (hq : Bq.Sz 1900 q) : (PyData.tuple [frD p, frD q]).showable = true ∧ (PyData.tuple [frD p, frD q]).shown.length ≤ 10000 ∧ (PyData.tuple [frD p, frD q]).depth ≤ 9 := by
  have h1 := fr_ok hp
  have h2 := fr_ok hq
  refine ⟨?_, ?_, ?_⟩
  · simp only [PyData.showable, PyData.showableAll, Bool.and_true, Bool.and_eq_true]
    exact ⟨h1.1, h2.1⟩
  · have := shown_tup_le (n := 3849) (m := 2) (ds := [frD p, frD q]) (fun d hd => by
      rcases List.mem_cons.mp hd with rfl | hd
      · exact h1.2.1
      · rw [List.mem_singleton.mp hd]
        exact h2.2.1) (Nat.le_refl 2)
    omega
  · simp only [PyData.depth, PyData.depthAll]
    have e1 := h1.2.2
    have e2 := h2.2.2
    omega
end Bw
/-! A def called by its parameters' names alone, in any order. -/
namespace Bw
open PySem PySem.Spec PyProof.Rows L2
theorem vals_at : ∀ {zs : List V} {ws : List Value}, Vals zs ws → ∀ i, RelV (zs.getD i .non) (ws.getD i .none)
  | _, _, .nil, i => by
    rw [List.getD_nil, List.getD_nil]
    rfl
  | _, _, .cons r t, 0 => r
  | _, _, .cons r t, i + 1 => by
    rw [List.getD_cons_succ, List.getD_cons_succ]
    exact vals_at t i
theorem vals_perm {zs : List V} {ws : List Value} (h : Vals zs ws) : ∀ π : List Nat, Vals (π.map fun i => zs.getD i .non) (π.map fun i => ws.getD i .none)
  | [] => .nil
  | i :: π => .cons (vals_at h i) (vals_perm h π)
section
variable {X : Cx} {k : Nat} {f : Addr} {fd : FuncData} {ps : List Str} {sp : Sp} {x : Str} {p pos : PySem.Pos} {kws : List Keyword} {tk : TA}
def tCallPm (sp : Sp) (π : List Nat) (n : Nat) (tk : TA) : TE := fun σ H Q => tk σ H fun zs H2 => zs.length = n ∧ sp (π.map fun i => zs.getD i .non) H2 Q E0
theorem pe_callPm (π : List Nat) (ks : List Str) (F : FnOk X.prog X.w X.K X.mg X.base CX0 k f fd ps sp) (hr : Room k X.A) (hg : Gl X x) (hm : X.mg x = some (.ref f)) (hk : PySem.W.keepIn X.K (.ref f) = true)
    (hb : ∀ (s : Shared) (ws : List Value), X.K.In s.heap → ws.length = ks.length → BindsTo s fd ⟨[], ks.zip ws⟩ (ps.zip (π.map fun i => ws.getD i .none))) (hkw : PK X kws tk)
    (hall : (backToKw pos (keywordEach kws X.env)).all (·.1.isSome) = true := by rfl) (hks : (backToKw pos (keywordEach kws X.env)).filterMap (·.1) = ks := by rfl)
    (hdb : (x == ("__debug__" : Str)) = false := by decide) (hpl : ((backTo pos (starEach [] X.env)).any (·.1) || (backToKw pos (keywordEach kws X.env)).any (·.1.isNone)) = false := by rfl) :
    PE X (.Call (.Name x p) [] kws pos) (tCallPm sp π ks.length tk) := by
  refine ⟨fun pins s σ H Q I h => wpAny_Call_Name_kw (ld_glob I hg hm ?_ hdb)⟩
  refine PySem.W.callWith_KW0 (h₀ := X.base) I.ok.mod.kin hk hall ?_ hpl
  refine thn (hkw.run pos pins s σ H _ I h) fun ws s1 ⟨zs, H1, I1, r1, zl, q1⟩ => ⟨I1.kIn, ?_⟩
  rw [hks]
  have wl : ws.length = ks.length := by rw [← r1.length]; exact zl
  refine wpAny_call (codeAny_mono (F.run X.A X.stack s1 H1 ⟨[], ks.zip ws⟩ (π.map fun i => ws.getD i .none) (π.map fun i => zs.getD i .non) Q E0 hr I1.env0 (hb s1 ws I1.kIn wl) (vals_perm r1 π) q1) fun r s' hq => ?_)
  match r, hq with
  | .error _, hq => exact False.elim hq
  | .ok (.ret _), hq => exact I1.after hq
  | .ok .next, hq => exact False.elim hq
  | .ok .brk, hq => exact False.elim hq
  | .ok .cont, hq => exact False.elim hq
end
end Bw
set_option exponentiation.threshold 10000
/-! The law (k35). -/
namespace Kx
open PySem PySem.Spec PyProof.Rows L2 Bw
abbrev s_law_right : Stmt := topS 62
abbrev n_law_right : List Str := ["well", "size", "view", "new", "far", "things", "turn", "thing", "told"]
theorem c_law_right : FnScope n_law_right ["well"] (defScope s_law_right) :=
  ⟨rfl, rfl, rfl, by decide +kernel, rfl, by decide +kernel, by decide +kernel⟩

abbrev slaw : Stmt := topS 63
abbrev nlaw : List Str := ["script", "well", "lap"]
theorem claw : FnScope nlaw ["script"] (defScope slaw) :=
  ⟨rfl, rfl, rfl, by decide +kernel, rfl, by decide +kernel, by decide +kernel⟩

theorem pl_up : ∀ {D : Nat} {d : PyData}, Pl D d → Pl (D + 1) d
  | 0, _, h => h.elim
  | D + 1, .int _, _ => trivial
  | D + 1, .tuple ds, h => ⟨h.1, fun d hd => pl_up (h.2 d hd)⟩
  | D + 1, .none, h => h.elim
  | D + 1, .bool _, h => h.elim
  | D + 1, .str _, h => h.elim
  | D + 1, .list _, h => h.elim
  | D + 1, .dict _, h => h.elim
theorem tab_pl {n : Nat} {M : List (List Nat)} (wk : WkB 56 n M) : Pl 4 (tabD (walkM M)) := by
  have n6 := wk.n6
  refine ⟨by rw [List.length_map, wk.len]; omega, fun d hd => ?_⟩
  obtain ⟨r, hr, rfl⟩ := List.mem_map.mp hd
  rw [wk.tab] at hr
  obtain ⟨i, hi, rfl⟩ := List.mem_map.mp hr
  refine ⟨by rw [List.length_map, List.length_map, List.length_range]; omega, fun d hd => ?_⟩
  obtain ⟨q, hq, rfl⟩ := List.mem_map.mp hd
  refine ⟨by show 2 ≤ 10; decide, fun d hd => ?_⟩
  rcases List.mem_cons.mp hd with rfl | hd
  · trivial
  · rw [List.mem_singleton.mp hd]
    trivial
theorem nats_pl {g : List Nat} (l : g.length ≤ 10) : Pl 2 (natsD g) := by
  refine ⟨by rw [List.length_map]; exact l, fun d hd => ?_⟩
  obtain ⟨x, _, rfl⟩ := List.mem_map.mp hd
  trivial
theorem view_pl {n : Nat} {M : List (List Nat)} {g : List Nat} (wk : WkB 56 n M) (l : g.length ≤ 10) : Pl 5 (.tuple [tabD (walkM M), natsD g]) := by
  refine ⟨by show 2 ≤ 10; decide, fun d hd => ?_⟩
  rcases List.mem_cons.mp hd with rfl | hd
  · exact tab_pl wk
  · rw [List.mem_singleton.mp hd]
    exact pl_up (pl_up (nats_pl l))
theorem nats_bd {g : List Nat} (h : ∀ x ∈ g, x < 64) : Bd 59 (natsD g) := by
  refine bdAll_iff.mpr fun d hd => ?_
  obtain ⟨x, hx, rfl⟩ := List.mem_map.mp hd
  have := h x hx
  show ((x : Nat) : Int).natAbs < 2 ^ 59
  have : (64 : Nat) < 2 ^ 59 := by decide
  omega
theorem walk_bd {n : Nat} {M : List (List Nat)} (wk : WkB 56 n M) : Bd 59 (tabD (walkM M)) := bd_tab.mpr fun r hr q hq => by
  rw [wk.tab] at hr
  obtain ⟨i, hi, rfl⟩ := List.mem_map.mp hr
  obtain ⟨j, hj, rfl⟩ := List.mem_map.mp hq
  exact wk.ch0B (List.mem_range.mp hi) (List.mem_range.mp hj)
theorem two_bd {n : Nat} {d e : PyData} (h : Bd n d) (k : Bd n e) : Bd n (.tuple [d, e]) := bdAll_iff.mpr fun x hx => by
  rcases List.mem_cons.mp hx with rfl | hx
  · exact h
  · rw [List.mem_singleton.mp hx]
    exact k
theorem shown_walk {n : Nat} {M : List (List Nat)} (wk : WkB 56 n M) : (tabD (walkM M)).showable = true ∧ (tabD (walkM M)).shown.length ≤ 200000 ∧ (tabD (walkM M)).depth ≤ 9 := by
  have n6 := wk.n6
  rw [wk.tab]
  have h1 : ∀ d ∈ ((List.range n).map fun i => (List.range n).map fun j => chQ n (mf M) i j).map rowD, d.showable = true ∧ d.shown.length ≤ 24000 ∧ d.depth ≤ 2 := fun d hd => by
    obtain ⟨r, hr, rfl⟩ := List.mem_map.mp hd
    obtain ⟨i, hi, rfl⟩ := List.mem_map.mp hr
    have h0 : ∀ d ∈ ((List.range n).map fun j => chQ n (mf M) i j).map frD, d.showable = true ∧ d.shown.length ≤ 3849 ∧ d.depth ≤ 1 := fun d hd => by
      obtain ⟨q, hq, rfl⟩ := List.mem_map.mp hd
      obtain ⟨j, hj, rfl⟩ := List.mem_map.mp hq
      exact fr_ok ((wk.ch0B (List.mem_range.mp hi) (List.mem_range.mp hj)).mono (by decide))
    unfold rowD
    refine ⟨?_, ?_, ?_⟩
    · simp only [PyData.showable]
      exact showAll_of fun d hd => (h0 d hd).1
    · have := shown_tup_le (n := 3849) (m := 6) (ds := ((List.range n).map fun j => chQ n (mf M) i j).map frD) (fun d hd => (h0 d hd).2.1) (by rw [List.length_map, List.length_map, List.length_range]; exact n6)
      omega
    · simp only [PyData.depth]
      have := depthAll_le (n := 1) (ds := ((List.range n).map fun j => chQ n (mf M) i j).map frD) fun d hd => (h0 d hd).2.2
      omega
  unfold tabD
  refine ⟨?_, ?_, ?_⟩
  · simp only [PyData.showable]
    exact showAll_of fun d hd => (h1 d hd).1
  · have := shown_tup_le (n := 24000) (m := 6) (ds := ((List.range n).map fun i => (List.range n).map fun j => chQ n (mf M) i j).map rowD) (fun d hd => (h1 d hd).2.1) (by rw [List.length_map, List.length_map, List.length_range]; exact n6)
    omega
  · simp only [PyData.depth]
    have := depthAll_le (n := 2) (ds := ((List.range n).map fun i => (List.range n).map fun j => chQ n (mf M) i j).map rowD) fun d hd => (h1 d hd).2.2
    omega
theorem shown_nats {g : List Nat} (l : g.length ≤ 6) (h : ∀ x ∈ g, x < 64) : (natsD g).showable = true ∧ (natsD g).shown.length ≤ 200000 ∧ (natsD g).depth ≤ 9 := by
  have h0 : ∀ d ∈ g.map (fun x : Nat => PyData.int (x : Nat)), d.showable = true ∧ d.shown.length ≤ 1921 ∧ d.depth = 0 := fun d hd => by
    obtain ⟨x, hx, rfl⟩ := List.mem_map.mp hd
    have := h x hx
    refine int_ok (i := ((x : Nat) : Int)) (Nat.lt_of_lt_of_le (show ((x : Nat) : Int).natAbs < 2 ^ 6 by show _ < 64; omega) (Nat.pow_le_pow_right (by decide) (by decide)))
  unfold natsD
  refine ⟨?_, ?_, ?_⟩
  · simp only [PyData.showable]
    exact showAll_of fun d hd => (h0 d hd).1
  · have := shown_tup_le (n := 1921) (m := 6) (fun d hd => (h0 d hd).2.1) (by rw [List.length_map]; exact l)
    omega
  · simp only [PyData.depth]
    have := depthAll_le (n := 0) fun d hd => Nat.le_of_eq (h0 d hd).2.2
    omega
theorem shown_view {n : Nat} {M : List (List Nat)} {g : List Nat} (wk : WkB 56 n M) (l : g.length ≤ 6) (h : ∀ x ∈ g, x < 64) :
    PyData.showableAll [tabD (walkM M), natsD g] = true ∧ (PyData.tuple [tabD (walkM M), natsD g]).shown.length ≤ sizeLine ∧ (PyData.tuple [tabD (walkM M), natsD g]).depth ≤ 60 := by
  have h1 : ∀ d ∈ [tabD (walkM M), natsD g], d.showable = true ∧ d.shown.length ≤ 200000 ∧ d.depth ≤ 9 := fun d hd => by
    rcases List.mem_cons.mp hd with rfl | hd
    · exact shown_walk wk
    · rw [List.mem_singleton.mp hd]
      exact shown_nats l h
  refine ⟨showAll_of fun d hd => (h1 d hd).1, ?_, ?_⟩
  · have := shown_tup_le (n := 200000) (m := 2) (fun d hd => (h1 d hd).2.1) (show [tabD (walkM M), natsD g].length ≤ 2 from Nat.le_refl 2)
    rw [sizeLine_eq]
    omega
  · simp only [PyData.depth]
    have := depthAll_le (n := 9) fun d hd => (h1 d hd).2.2
    omega
/-- merged marks are glasses, and keep together what was together -/
theorem gl_merged {n T t : Nat} {g new : List Nat} (gl : g.length = n) (ga : ∀ k, k < T → k ∈ g) (gt : ∀ x ∈ g, x < T) (nl : new.length = T) (nt : ∀ x ∈ new, x < t) (na : ∀ m, m < t → m ∈ new) :
    IsGl n (natsD (g.map fun x => new.getD x 0)) ∧ Keeps g (g.map fun x => new.getD x 0) ∧ ∀ x ∈ g.map (fun x => new.getD x 0), x < t := by
  have mem : ∀ x, x ∈ g → new.getD x 0 ∈ new := fun x hx => by
    have := gt x hx
    rw [List.getD_eq_getElem?_getD, List.getElem?_eq_getElem (by omega)]
    exact List.getElem_mem _
  refine ⟨isGl_iff.mpr ⟨by rw [List.length_map, gl], fun x hx x0 => ?_⟩, fun i j hi hj e => ?_, fun x hx => ?_⟩
  · obtain ⟨y, hy, rfl⟩ := List.mem_map.mp hx
    have h1 := nt _ (mem y hy)
    have h2 := na (new.getD y 0 - 1) (by omega)
    obtain ⟨k, hk⟩ := List.mem_iff_getElem?.mp h2
    have hkl := (List.getElem?_eq_some_iff.mp hk).1
    refine List.mem_map.mpr ⟨k, ga k (by omega), ?_⟩
    rw [List.getD_eq_getElem?_getD, hk]
    rfl
  · have at' : ∀ {i}, i < g.length → (g.map fun x => new.getD x 0).getD i 0 = new.getD (g.getD i 0) 0 := fun {i} h => by
      rw [List.getD_eq_getElem?_getD, List.getElem?_map, List.getElem?_eq_getElem h, List.getD_eq_getElem?_getD (l := g), List.getElem?_eq_getElem h]
      rfl
    rw [at' hi, at' hj, e]
  · obtain ⟨y, hy, rfl⟩ := List.mem_map.mp hx
    exact nt _ (mem y hy)
/-- the well, the things so far, the view, the new glasses -/
def SS (w tA : Addr) : Addr → Prop := fun a => a = w ∨ a = tA
structure St (dV : PyData) (g2 : List Nat) (w tA : Addr) (vv vn : V) (H : Hp) (l : Addr) (acc : List V) (ds : List PyData) : Prop where
  W : WellAt w l H
  eT : H tA = some (.lst acc)
  tw : tA ≠ w
  tl : tA ≠ l
  dv : Dq (SS w tA) H vv dV
  dn : Dq (SS w tA) H vn (natsD g2)
  al : DqAll (SS w tA) H acc ds
  bd : ∀ d ∈ ds, Bd 300 d
section
variable {dV : PyData} {g2 : List Nat} {w tA l l' : Addr} {vv vn : V} {H H' : Hp} {acc : List V} {ds : List PyData}
theorem well_ne2 {w l l' a : Addr} {H : Hp} {o : HO} (hl : l' = l ∨ H l' = none) (ne : a ≠ l) (e : H a = some o) : a ≠ l' := fun z => by
  rcases hl with hl | hl
  · exact ne (by rw [z, hl])
  · rw [← z, e] at hl
    cases hl
theorem St.go (s : St dV g2 w tA vv vn H l acc ds) (k : Kp (At w) H H') (W : WellAt w l' H') (hl : l' = l ∨ H l' = none) : St dV g2 w tA vv vn H' l' acc ds := by
  have k2 : Kp (SS w tA) H H' := k.mono fun b z => .inl z
  exact ⟨W, k _ _ s.tw s.eT, s.tw, well_ne2 (w := w) hl s.tl s.eT, s.dv.keep k2, s.dn.keep k2, s.al.keep k2, s.bd⟩
theorem St.same (s : St dV g2 w tA vv vn H l acc ds) (e : Same H H') : St dV g2 w tA vv vn H' l acc ds := s.go (Kp.same e) (s.W.same e) (.inl rfl)
theorem St.push (s : St dV g2 w tA vv vn H l acc ds) {v : V} {e : PyData} (d : Dq (SS w tA) H v e) (b : Bd 300 e) : St dV g2 w tA vv vn (upd H tA (.lst (acc ++ [v]))) l (acc ++ [v]) (ds ++ [e]) := by
  have kp : Kp (SS w tA) H (upd H tA (.lst (acc ++ [v]))) := fun a o na e => by
    rw [upd_ne (fun z => na (.inr z))]
    exact e
  refine ⟨s.W.frame s.tw s.tl, upd_same, s.tw, s.tl, s.dv.keep kp, s.dn.keep kp, (s.al.keep kp).app (.cons (d.keep kp) .nil), fun d hd => ?_⟩
  rcases List.mem_append.mp hd with hd | hd
  · exact s.bd d hd
  · rw [List.mem_singleton.mp hd]
    exact b
/-- the things laid anew, some more behind them -/
theorem St.cat (s : St dV g2 w tA vv vn H l acc ds) {p : Addr} {xs : List V} {es : List PyData} (np : H p = none) (d : DqAll (At w) H xs es) (b : ∀ e ∈ es, Bd 300 e) : St dV g2 w p vv vn (upd H p (.lst (acc ++ xs))) l (acc ++ xs) (ds ++ es) := by
  have kp : Kp (SS w p) H (upd H p (.lst (acc ++ xs))) := Kp.new np
  have wk : ∀ {v d}, Dq (SS w tA) H v d → Dq (SS w p) (upd H p (.lst (acc ++ xs))) v d := fun h => ((h.weak (W := At w) fun b z => .inl z).fresh np).keep kp
  refine ⟨s.W.new np, upd_same, (s.W.ne np).1, (s.W.ne np).2, wk s.dv, wk s.dn, ((((s.al.weak (W := At w) fun b z => .inl z).fresh np).keep kp).app ((d.fresh np).keep kp)), fun d hd => ?_⟩
  rcases List.mem_append.mp hd with hd | hd
  · exact s.bd d hd
  · exact b d hd
theorem St.ls (s : St dV g2 w tA vv vn H l acc ds) : LsS (At w) H := fun a z => by
  obtain ⟨st, x, ns, e1, e2, e3, e4⟩ := s.W
  exact ⟨_, by rw [show a = w from z]; exact e1⟩
theorem St.two {va : Addr} {d1 d2 : PyData} (s : St (.tuple [d1, d2]) g2 w tA (.ref va) vn H l acc ds) : ∃ x y, H va = some (.tup [x, y]) ∧ Dq (At w) H x d1 ∧ Dq (At w) H y d2 := by
  obtain ⟨a, xs, e, na, ea, el⟩ := (s.dv.weak (W := At w) fun b z => .inl z).tupI
  cases e
  match xs, el with
  | [x, y], .cons dx (.cons dy .nil) => exact ⟨x, y, ea, dx, dy⟩
theorem St.two2 {va : Addr} {d1 d2 : PyData} (s : St (.tuple [d1, d2]) g2 w tA (.ref va) vn H l acc ds) : ∃ x y, H va = some (.tup [x, y]) ∧ Dq (SS w tA) H x d1 ∧ Dq (SS w tA) H y d2 := by
  obtain ⟨a, xs, e, na, ea, el⟩ := s.dv.tupI
  cases e
  match xs, el with
  | [x, y], .cons dx (.cons dy .nil) => exact ⟨x, y, ea, dx, dy⟩
theorem St.ls2 (s : St dV g2 w tA vv vn H l acc ds) : LsS (SS w tA) H := fun a z => by
  rcases z with z | z
  · obtain ⟨st, x, ns, e1, e2, e3, e4⟩ := s.W
    exact ⟨_, by rw [z]; exact e1⟩
  · exact ⟨_, by rw [z]; exact s.eT⟩
theorem St.up (s : St dV g2 w tA vv vn H l acc ds) {v : V} {d : PyData} {p : Addr} {xs : List V} (np : H p = none) (e : upd H p (.tup xs) p = some (.tup xs) → Dq (SS w tA) (upd H p (.tup xs)) v d) : Dq (SS w tA) (upd H p (.tup xs)) v d := e upd_same
theorem St.pn (s : St dV g2 w tA vv vn H l acc ds) {p : Addr} (np : H p = none) : ¬ SS w tA p := fun z => by
  rcases z with z | z
  · obtain ⟨_, _, _, e, _⟩ := s.W
    rw [z, e] at np
    cases np
  · rw [z, s.eT] at np
    cases np
theorem St.len (s : St dV g2 w tA vv vn H l acc ds) : acc.length = ds.length := s.al.length
end
section
variable {P : Program} {w : World} {K : PySem.W.Frag} {mg : Str → Option Value} {base : Heap}
def spRight : Sp := fun vs H Q _ => ∃ w l, vs = [.ref w] ∧ WellAt w l H ∧ ∀ H' l', WellAt w l' H' → Q (.bl true) H'
theorem ok_right {f : Addr} {fd : FuncData} (F : Fun K "_law_right" "_law_right" s_law_right f fd) (M : Mb mg) (Dlaw_pick : Df P w K mg base 2 "_law_pick" ["well", "some"] (spOfL K)) (Dlaw_view : Df P w K mg base 7 "_law_view" ["well", "size", "most"] spViewR)
    (Dlaw_merged : Df P w K mg base 4 "_law_merged" ["well", "marks"] spMg) (Dlaw_through : Df P w K mg base 1 "_law_through" ["new", "marks"] spTh) (Dlaw_bent : Df P w K mg base 10 "_law_bent" ["well", "thing"] (spBent 5)) (Dlaw_odd : Df P w K mg base 3 "_law_odd" ["well"] spOdd)
    (Dlaw_is_judged : Dg P w K mg base 8 "_law_is_judged" ["size", "thing"] spJd) (Dput_together : Df P w K mg base 9 "put_together" ["sighted", "glasses"] (spPu 300)) (Dis_sighted : Df P w K mg base 7 "is_sighted" ["value"] (spSi 300)) (Dis_glasses : Df P w K mg base 3 "is_glasses" ["many", "value"] spGlS)
    (Nput_together_10 : ∀ (s : Shared) (ws : List Value), K.In s.heap → ws.length = ["glasses", "sighted"].length → BindsTo s Dput_together.fd ⟨[], (["glasses", "sighted"] : List Str).zip ws⟩ ((["sighted", "glasses"] : List Str).zip ([1, 0].map fun i => ws.getD i .none)))
    (Nis_sighted_0 : ∀ (s : Shared) (ws : List Value), K.In s.heap → ws.length = ["value"].length → BindsTo s Dis_sighted.fd ⟨[], (["value"] : List Str).zip ws⟩ ((["value"] : List Str).zip ([0].map fun i => ws.getD i .none)))
    (Nis_glasses_10 : ∀ (s : Shared) (ws : List Value), K.In s.heap → ws.length = ["value", "many"].length → BindsTo s Dis_glasses.fd ⟨[], (["value", "many"] : List Str).zip ws⟩ ((["many", "value"] : List Str).zip ([1, 0].map fun i => ws.getD i .none))) :
    FnG P w K mg base 12 f fd ["well"] spRight := by
  refine okG F c_law_right (fun vs H Q E h => ?_) (fun cdv A outer s H vs Q E hG hr h => ?_)
  · obtain ⟨w, l, rfl, _⟩ := h
    rfl
  · obtain ⟨w, l, rfl, hW, q⟩ := h
    have hu := hr.units
    refine ⟨_, (pss_cons (ps_set (i := 1) c_law_right.nd rfl (.inl rfl) (pe_call Dlaw_pick.G (hr.mono (by first | decide | omega)) rfl Dlaw_pick.g Dlaw_pick.kp Dlaw_pick.b .nil pass0 (pa_cons (pv 0) (pa_cons (pe_tup (pa_cons pe_int (pa_cons pe_int (pa_cons pe_int (pa_cons pe_int (pa_cons pe_int (pa_cons pe_int pa_nil))))))) pa_nil))))
 (pss_cons (ps_set (i := 2) c_law_right.nd rfl (.inl rfl) (pe_call Dlaw_view.G (hr.mono (by first | decide | omega)) rfl Dlaw_view.g Dlaw_view.kp Dlaw_view.b .nil pass0 (pa_cons (pv 0) (pa_cons (pv 1) (pa_cons (pv 1) pa_nil)))))
 (pss_cons (ps_set (i := 3) c_law_right.nd rfl (.inl rfl) (pe_call Dlaw_through.G (hr.mono (by first | decide | omega)) rfl Dlaw_through.g Dlaw_through.kp Dlaw_through.b .nil pass0 (pa_cons (pe_call Dlaw_merged.G (hr.mono (by first | decide | omega)) rfl Dlaw_merged.g Dlaw_merged.kp Dlaw_merged.b .nil pass0 (pa_cons (pv 0) (pa_cons (pe_ix ix_tup (pv 2) pe_int (fun _ _ => rfl)) pa_nil))) (pa_cons (pe_ix ix_tup (pv 2) pe_int (fun _ _ => rfl)) pa_nil))))
 (pss_cons (ps_set (i := 4) c_law_right.nd rfl (.inl rfl) (pe_call Dlaw_pick.G (hr.mono (by first | decide | omega)) rfl Dlaw_pick.g Dlaw_pick.kp Dlaw_pick.b .nil pass0 (pa_cons (pv 0) (pa_cons (pe_tup (pa_cons pe_int (pa_cons pe_int (pa_cons pe_int (pa_cons pe_int (pa_cons pe_int (pa_cons pe_int pa_nil))))))) pa_nil))))
 (pss_cons (ps_set (i := 5) c_law_right.nd rfl (.inl rfl) (pe_lst (pa_cons (pv 2) (pa_cons (pe_ix ix_tup (pv 2) pe_int (fun _ _ => rfl)) (pa_cons (pv 3) (pa_cons (pe_tup (pa_cons (pe_ix ix_tup (pv 2) pe_int (fun _ _ => rfl)) (pa_cons (pv 3) pa_nil))) (pa_cons (pe_tup (pa_cons (pe_ix ix_tup (pv 2) pe_int (fun _ _ => rfl)) (pa_cons (pe_slice sl_tupA (pe_ix ix_tup (pv 2) pe_int (fun _ _ => rfl)) (po_some pe_int) po_none) pa_nil))) (pa_cons (pe_callTy call_list_of (by rfl) M.list (by decide +kernel) (pa_cons (pv 2) pa_nil)) (pa_cons (pe_call Dlaw_bent.G (hr.mono (by first | decide | omega)) rfl Dlaw_bent.g Dlaw_bent.kp Dlaw_bent.b .nil pass0 (pa_cons (pv 0) (pa_cons (pe_ix ix_tup (pv 2) pe_int (fun _ _ => rfl)) pa_nil))) pa_nil)))))))))
 (pss_cons (ps_for PassesOwn.never rfl (pi_range1 (by rfl) M.range (pa_cons pe_int pa_nil)) (pg_name (i := 6) c_law_right.nd rfl (.inl rfl))
 (pss_cons (ps_set (i := 5) c_law_right.nd rfl (.inl rfl) (pe_op op_cat (pv 5) (pe_lst (pa_cons (pe_call Dlaw_bent.G (hr.mono (by first | decide | omega)) rfl Dlaw_bent.g Dlaw_bent.kp Dlaw_bent.b .nil pass0 (pa_cons (pv 0) (pa_cons (pv 2) pa_nil))) (pa_cons (pe_call Dlaw_bent.G (hr.mono (by first | decide | omega)) rfl Dlaw_bent.g Dlaw_bent.kp Dlaw_bent.b .nil pass0 (pa_cons (pv 0) (pa_cons (pe_ix ix_tup (pv 2) pe_int (fun _ _ => rfl)) pa_nil))) (pa_cons (pe_call Dlaw_odd.G (hr.mono (by first | decide | omega)) rfl Dlaw_odd.g Dlaw_odd.kp Dlaw_odd.b .nil pass0 (pa_cons (pv 0) pa_nil)) pa_nil))))))
 (pss_cons (ps_expr (pe_bm PySem.F.plainAttrs_list PySem.F.slot_list_append PySem.F.type_list_append mt_append (pv 5) (pa_cons (pe_tup (pa_cons (pe_call Dlaw_bent.G (hr.mono (by first | decide | omega)) rfl Dlaw_bent.g Dlaw_bent.kp Dlaw_bent.b .nil pass0 (pa_cons (pv 0) (pa_cons (pe_ix ix_tup (pv 2) pe_int (fun _ _ => rfl)) pa_nil))) (pa_cons (pe_ix ix_tup (pv 2) pe_int (fun _ _ => rfl)) pa_nil))) pa_nil)))
 (pss_one (ps_expr (pe_bm PySem.F.plainAttrs_list PySem.F.slot_list_append PySem.F.type_list_append mt_append (pv 5) (pa_cons (pe_tup (pa_cons (pe_ix ix_tup (pv 2) pe_int (fun _ _ => rfl)) (pa_cons (pe_call Dlaw_bent.G (hr.mono (by first | decide | omega)) rfl Dlaw_bent.g Dlaw_bent.kp Dlaw_bent.b .nil pass0 (pa_cons (pv 0) (pa_cons (pe_ix ix_tup (pv 2) pe_int (fun _ _ => rfl)) pa_nil))) pa_nil))) pa_nil)))))))
 (pss_cons (ps_for PassesOwn.never rfl (pi_list (pv 5)) (pg_name (i := 7) c_law_right.nd rfl (.inl rfl))
 (pss_one (ps_if (PW.pt (pw_or (pt_not (pt_val (pe_callG Dlaw_is_judged.G hG (hr.mono (by first | decide | omega)) rfl Dlaw_is_judged.g Dlaw_is_judged.kp Dlaw_is_judged.b (pa_cons (pv 1) (pa_cons (pv 7) pa_nil))))) (pw_or1 (pt_not (pt_val (pe_callG Dlaw_is_judged.G hG (hr.mono (by first | decide | omega)) rfl Dlaw_is_judged.g Dlaw_is_judged.kp Dlaw_is_judged.b (pa_cons (pv 4) (pa_cons (pv 7) pa_nil))))))))
 (pss_one (ps_ret pe_bl))
 pss_nil)))
 (pss_cons (ps_if (pt_cmpR op_ne (pe_callB (call_reprT hG hr) (by rfl) M.repr (by decide +kernel) (pa_cons (pe_call Dput_together.G (hr.mono (by first | decide | omega)) rfl Dput_together.g Dput_together.kp Dput_together.b .nil pass0 (pa_cons (pv 2) (pa_cons (pv 3) pa_nil))) pa_nil)) (pe_callB (call_reprT hG hr) (by rfl) M.repr (by decide +kernel) (pa_cons (pe_tup (pa_cons (pe_ix ix_tup (pv 2) pe_int (fun _ _ => rfl)) (pa_cons (pv 3) pa_nil))) pa_nil)) (nomark _))
 (pss_one (ps_ret pe_bl))
 pss_nil)
 (pss_cons (ps_set (i := 8) c_law_right.nd rfl (.inl rfl) (Bw.pe_callPm [1, 0] ["glasses", "sighted"] (by exact Dput_together.G) (hr.mono (by first | decide | omega)) rfl Dput_together.g Dput_together.kp Nput_together_10 (pk_cons (pv 3) (pk_cons (pe_call Dput_together.G (hr.mono (by first | decide | omega)) rfl Dput_together.g Dput_together.kp Dput_together.b .nil pass0 (pa_cons (pv 2) (pa_cons (pe_ix ix_tup (pv 2) pe_int (fun _ _ => rfl)) pa_nil))) pk_nil))))
 (pss_cons (ps_if (pt_cmpR op_ne (pe_callB (call_reprT hG hr) (by rfl) M.repr (by decide +kernel) (pa_cons (pv 8) pa_nil)) (pe_callB (call_reprT hG hr) (by rfl) M.repr (by decide +kernel) (pa_cons (pe_tup (pa_cons (pe_ix ix_tup (pv 2) pe_int (fun _ _ => rfl)) (pa_cons (pv 3) pa_nil))) pa_nil)) (nomark _))
 (pss_one (ps_ret pe_bl))
 pss_nil)
 (pss_one (ps_ret (pe_and (pe_cmpR op_isB (Bw.pe_callPm [0] ["value"] (by exact Dis_sighted.G) (hr.mono (by first | decide | omega)) rfl Dis_sighted.g Dis_sighted.kp Nis_sighted_0 (pk_cons (pv 8) pk_nil)) pe_bl (nomark _)) (pe_one (pe_cmpR op_isB (Bw.pe_callPm [1, 0] ["value", "many"] (by exact Dis_glasses.G) (hr.mono (by first | decide | omega)) rfl Dis_glasses.g Dis_glasses.kp Nis_glasses_10 (pk_cons (pv 3) (pk_cons (pv 1) pk_nil))) pe_bl (nomark _)))))))))))))))), ?_⟩
    refine ⟨_, rfl, sz63 (by show 6 ≤ 1000; decide), fun t nt => ⟨w, l, t, _, rfl, hW.new nt, (hW.ne nt).1, .inr (.of upd_same), (by show 0 < 6; decide), (by show 6 < 1073741824; decide), fun H1 i v l1 e1 k1 W1 hl1 => ?_⟩⟩
    obtain ⟨n, n1, n5, rfl⟩ : ∃ k : Nat, 1 ≤ k ∧ k ≤ 5 ∧ v = .int (k : Nat) := by
      match i, e1 with
      | 0, e => exact ⟨3, by omega, by omega, (Option.some.inj e).symm⟩
      | 1, e => exact ⟨2, by omega, by omega, (Option.some.inj e).symm⟩
      | 2, e => exact ⟨4, by omega, by omega, (Option.some.inj e).symm⟩
      | 3, e => exact ⟨1, by omega, by omega, (Option.some.inj e).symm⟩
      | 4, e => exact ⟨3, by omega, by omega, (Option.some.inj e).symm⟩
      | 5, e => exact ⟨5, by omega, by omega, (Option.some.inj e).symm⟩
      | i + 6, e => simp at e
    clear k1 hl1 e1 hW nt t
    -- a sighted walk
    refine ⟨_, rfl, _, rfl, _, rfl, w, l1, n, n, rfl, n1, by omega, n1, by omega, W1, fun H2 l2 vv Mw g T k2 W2 hl2 dv wk gl Tn _ gt ga => ?_⟩
    clear k2 hl2 W1 l1 H1
    have T1 : 1 ≤ T := by
      cases g with
      | nil => simp at gl; omega
      | cons x g =>
        have := gt x List.mem_cons_self
        omega
    have dvt := dv
    obtain ⟨va, vxs, rfl, nva, eva, evl⟩ := dvt.tupI
    match vxs, evl with
    | [vw, vg], .cons dw (.cons dg .nil) =>
      refine ⟨_, rfl, _, rfl, va, _, 1, vg, rfl, rfl, .of eva, rfl, w, l2, vg, g, T, rfl, dg, T1, by omega, ga _ (by omega), gt, W2, fun H3 l3 pm new t k3 W3 hl3 pmw epm nl nt na => ?_⟩
      have s23 := k3
      have eva3 := k3 _ _ nva eva
      have dw3 := dw.keep k3
      have dg3 := dg.keep k3
      have dNew : Dq (At w) H3 (.ref pm) (natsD new) := .tup pmw epm (nats_dq2 new)
      refine ⟨_, rfl, va, _, 1, vg, rfl, rfl, .of eva3, rfl, At w, At w, .ref pm, vg, new, g, rfl, dNew, dg3, by omega, fun x hx => by rw [nl]; exact gt x hx, fun pn H4 s4 npn epn => ?_⟩
      obtain ⟨ig2, kp2, lt2⟩ := gl_merged gl ga gt nl nt na
      have g2l : (g.map fun x => new.getD x 0).length = n := by rw [List.length_map, gl]
      have tT : t ≤ T := by
        have := List.Nodup.length_le_of_subset (List.nodup_range (n := t)) fun y hy => na y (List.mem_range.mp hy)
        rw [List.length_range, nl] at this
        exact this
      generalize g.map (fun x => new.getD x 0) = g2 at epn ig2 kp2 lt2 g2l
      have W4 := W3.same s4
      have eva4 := s4 _ _ eva3
      have dw4 := dw3.keep (Kp.same s4)
      have dg4 := dg3.keep (Kp.same s4)
      have pnw : pn ≠ w := fun z => by
        obtain ⟨_, _, _, e, _⟩ := W3
        rw [z, e] at npn
        cases npn
      have dn4 : Dq (At w) H4 (.ref pn) (natsD g2) := .tup pnw epn (nats_dq2 g2)
      clear eva3 dw3 dg3 dNew W3 hl3 pmw epm nl na nt dv dvt s23 k3 dw dg W2 eva
      refine ⟨_, rfl, sz63 (by show 6 ≤ 1000; decide), fun tf ntf => ⟨w, l3, tf, _, rfl, W4.new ntf, (W4.ne ntf).1, .inr (.of upd_same), (by show 0 < 6; decide), (by show 6 < 1073741824; decide), fun H5 i vf l5 e5 k5 W5 hl5 => ?_⟩⟩
      obtain ⟨m, m1, m6, rfl⟩ : ∃ k : Nat, 1 ≤ k ∧ k ≤ 6 ∧ vf = .int (k : Nat) := by
        match i, e5 with
        | 0, e => exact ⟨1, by omega, by omega, (Option.some.inj e).symm⟩
        | 1, e => exact ⟨2, by omega, by omega, (Option.some.inj e).symm⟩
        | 2, e => exact ⟨3, by omega, by omega, (Option.some.inj e).symm⟩
        | 3, e => exact ⟨4, by omega, by omega, (Option.some.inj e).symm⟩
        | 4, e => exact ⟨5, by omega, by omega, (Option.some.inj e).symm⟩
        | 5, e => exact ⟨6, by omega, by omega, (Option.some.inj e).symm⟩
        | i + 6, e => simp at e
      have k45 : Kp (At w) H4 H5 := (Kp.new ntf).trans k5
      have eva5 := k45 _ _ nva eva4
      have dw5 := dw4.keep k45
      have dg5 := dg4.keep k45
      have dn5 := dn4.keep k45
      have dv5 : Dq (At w) H5 (.ref va) (.tuple [tabD (walkM Mw), natsD g]) := .tup nva eva5 (.cons dw5 (.cons dg5 .nil))
      clear eva4 dw4 dg4 dn4 k5 e5 hl5 W4 ntf k45 npn epn s4
      have n6 : n ≤ 6 := by omega
      have g64 : ∀ x ∈ g, x < 64 := fun x hx => by have := gt x hx; omega
      have g264 : ∀ x ∈ g2, x < 64 := fun x hx => by have := lt2 x hx; omega
      have bW := walk_bd wk
      have bG := nats_bd g64
      have bN := nats_bd g264
      have iw := wkIsw wk
      have lw : lenD (tabD (walkM Mw)) = n := by
        show ((walkM Mw).map rowD).length = n
        rw [List.length_map, wk.len]
      have ig1 : IsGl n (natsD g) := isGl_iff.mpr ⟨gl, fun x hx x0 => ga _ (by have := gt x hx; omega)⟩
      have iv : IsVw (.tuple [tabD (walkM Mw), natsD g]) := ⟨_, _, rfl, iw, by rw [lw]; exact ig1⟩
      -- things
      obtain ⟨gA, gys, rfl, ngA, egA, elG⟩ := dg5.tupI
      obtain rfl := dq_nats elG
      refine ⟨_, rfl, _, rfl, va, _, 1, .ref gA, rfl, rfl, .of eva5, rfl, _, rfl, _, rfl, va, _, 0, vw, rfl, rfl, .of eva5, rfl, _, rfl, sz63 (by show 2 ≤ 1000; decide), fun p1 np1 => ?_⟩
      have s6 : Same H5 (upd H5 p1 (.tup [vw, .ref pn])) := same_new np1
      have e61 : (upd H5 p1 (.tup [vw, .ref pn])) p1 = some (.tup [vw, .ref pn]) := upd_same
      generalize upd H5 p1 (.tup [vw, .ref pn]) = H6 at s6 e61 ⊢
      have eva6 := s6 _ _ eva5
      refine ⟨_, rfl, va, _, 0, vw, rfl, rfl, .of eva6, rfl, _, rfl, va, _, 1, .ref gA, rfl, rfl, .of eva6, rfl, ?_⟩
      have egA6 := s6 _ _ egA
      refine ⟨1, rfl, ?_⟩
      dsimp only [tNoPart]
      refine sl_by egA6 fun pS H7 s7 eS _ => ?_
      rw [show cutV (nats g) (some 1) none = nats (g.drop 1) from (cut_from (xs := nats g) (n := 1) (by unfold nats; rw [List.length_map]; omega)).trans (by unfold nats; rw [List.map_drop])] at eS
      refine ⟨sz63 (by show 2 ≤ 1000; decide), fun p3 np3 => ?_⟩
      have s8 : Same H7 (upd H7 p3 (.tup [vw, .ref pS])) := same_new np3
      have e83 : (upd H7 p3 (.tup [vw, .ref pS])) p3 = some (.tup [vw, .ref pS]) := upd_same
      generalize upd H7 p3 (.tup [vw, .ref pS]) = H8 at s8 e83 ⊢
      have s58 := (s6.trans s7).trans s8
      have eva8 := s58 _ _ eva5
      refine ⟨_, rfl, va, _, rfl, .inr (.of eva8), fun pL npL => ?_⟩
      have s9 : Same H8 (upd H8 pL (.lst [vw, .ref gA])) := same_new npL
      have e9L : (upd H8 pL (.lst [vw, .ref gA])) pL = some (.lst [vw, .ref gA]) := upd_same
      generalize upd H8 pL (.lst [vw, .ref gA]) = H9 at s9 e9L ⊢
      have s59 := s58.trans s9
      have eva9 := s9 _ _ eva8
      have W9 := W5.same s59
      have ls9 : LsS (At w) H9 := fun a z => by
        obtain ⟨st, x, ns, e1, e2, e3, e4⟩ := W9
        exact ⟨_, by rw [show a = w from z]; exact e1⟩
      have dw9 := dw5.keep (Kp.same s59)
      refine ⟨_, rfl, _, rfl, va, _, 0, vw, rfl, rfl, .of eva9, rfl, At w, w, l5, vw, _, rfl, rfl, ls9, W9, dw9, pl_up (tab_pl wk), bd_mono (show 59 ≤ 190 by decide) _ bW, fun H10 l10 vb db k10 W10 hl10 qb bb _ => ?_⟩
      refine ⟨sz63 (by show 7 ≤ 1000; decide), fun tA ntA => ?_⟩
      have st0 : St (.tuple [tabD (walkM Mw), natsD g]) g2 w tA (.ref va) (.ref pn) (upd H10 tA (.lst [.ref va, .ref gA, .ref pn, .ref p1, .ref p3, .ref pL, vb])) l10 [.ref va, .ref gA, .ref pn, .ref p1, .ref p3, .ref pL, vb]
          [.tuple [tabD (walkM Mw), natsD g], natsD g, natsD g2, .tuple [tabD (walkM Mw), natsD g2], .tuple [tabD (walkM Mw), natsD (g.drop 1)], .list [tabD (walkM Mw), natsD g], db] := by
        have nW : ∀ {a : Addr} {o : HO} {H' : Hp}, H' a = some o → (∀ ys, o ≠ .lst ys) → WellAt w l5 H' → a ≠ w := fun {a o H'} e h W z => by
          obtain ⟨_, _, _, e2, _⟩ := W
          rw [z, e2] at e
          exact h _ (Option.some.inj e).symm
        have dg9 := dg5.keep (Kp.same s59)
        have dn9 := dn5.keep (Kp.same s59)
        have dv9 := dv5.keep (Kp.same s59)
        have d1 : Dq (At w) H9 (.ref p1) (.tuple [tabD (walkM Mw), natsD g2]) := .tup (nW e61 (fun _ z => nomatch z) (W5.same s6)) (((s7.trans s8).trans s9) _ _ e61) (.cons dw9 (.cons dn9 .nil))
        have dS : Dq (At w) H9 (.ref pS) (natsD (g.drop 1)) := .tup (nW eS (fun _ z => nomatch z) (W5.same (s6.trans s7))) ((s8.trans s9) _ _ eS) (nats_dq2 _)
        have d3 : Dq (At w) H9 (.ref p3) (.tuple [tabD (walkM Mw), natsD (g.drop 1)]) := .tup (nW e83 (fun _ z => nomatch z) (W5.same s58)) (s9 _ _ e83) (.cons dw9 (.cons dS .nil))
        have pLw : pL ≠ w := fun z => by
          obtain ⟨_, _, _, e2, _⟩ := W5.same s58
          rw [z, e2] at npL
          cases npL
        have dL : Dq (At w) H9 (.ref pL) (.list [tabD (walkM Mw), natsD g]) := .lst pLw e9L (.cons dw9 (.cons dg9 .nil))
        have kT : Kp (SS w tA) H10 (upd H10 tA (.lst [.ref va, .ref gA, .ref pn, .ref p1, .ref p3, .ref pL, vb])) := Kp.new ntA
        have up : ∀ {v d}, Dq (At w) H9 v d → Dq (SS w tA) (upd H10 tA (.lst [.ref va, .ref gA, .ref pn, .ref p1, .ref p3, .ref pL, vb])) v d := fun h => ((h.keep k10).fresh ntA).keep kT
        have up2 : ∀ {v d}, Dq (At w) H10 v d → Dq (SS w tA) (upd H10 tA (.lst [.ref va, .ref gA, .ref pn, .ref p1, .ref p3, .ref pL, vb])) v d := fun h => (h.fresh ntA).keep kT
        refine ⟨W10.new ntA, upd_same, (W10.ne ntA).1, (W10.ne ntA).2, up dv9, up dn9, .cons (up dv9) (.cons (up dg9) (.cons (up dn9) (.cons (up d1) (.cons (up d3) (.cons (up dL) (.cons (up2 qb) .nil)))))), fun d hd => ?_⟩
        have b300 : ∀ {d}, Bd 59 d → Bd 300 d := fun {d} h => bd_mono (by decide) d h
        simp only [List.mem_cons, List.not_mem_nil, or_false] at hd
        rcases hd with rfl | rfl | rfl | rfl | rfl | rfl | rfl
        · exact b300 (two_bd bW bG)
        · exact b300 bG
        · exact b300 bN
        · exact b300 (two_bd bW bN)
        · exact b300 (two_bd bW (nats_bd fun x hx => g64 x (List.mem_of_mem_drop hx)))
        · exact b300 (show Bd 59 (.tuple [tabD (walkM Mw), natsD g]) from two_bd bW bG)
        · exact bd_mono (show 210 ≤ 300 by decide) _ bb
      generalize upd H10 tA (.lst [.ref va, .ref gA, .ref pn, .ref p1, .ref p3, .ref pL, vb]) = HT at st0
      clear W10 qb bb hl10 k10 dw9 ls9 W9 eva9 s59 e9L s9 npL eva8 s58 e83 s8 np3 eS s7 egA6 eva6 e61 s6 np1 dw5 dg5 dn5 dv5 eva5 egA elG
      dsimp only [gName]
      refine seq_cut (fun σ H' => ∃ tA l' acc ds y6, σ = [some (.ref w), some (.int (n : Nat)), some (.ref va), some (.ref pn), some (.int (m : Nat)), some (.ref tA), y6, none, none] ∧ St (.tuple [tabD (walkM Mw), natsD g]) g2 w tA (.ref va) (.ref pn) H' l' acc ds ∧ acc.length = 22) ?_ ?_
      rotate_left
      · intro N' hN
        refine ⟨3, rfl, by decide, by decide, for_range (lo := 0) (n := 3) (fun i σ H' => ∃ tA l' acc ds y6, σ = [some (.ref w), some (.int (n : Nat)), some (.ref va), some (.ref pn), some (.int (m : Nat)), some (.ref tA), y6, none, none] ∧ St (.tuple [tabD (walkM Mw), natsD g]) g2 w tA (.ref va) (.ref pn) H' l' acc ds ∧ acc.length = 7 + 5 * i)
          ⟨tA, l10, _, _, _, rfl, st0, rfl⟩ ?_ ?_⟩
        · clear st0
          rintro i σ H1 hi ⟨tA, l1, acc, ds, y6, rfl, st1, la⟩
          refine ⟨_, rfl, _, rfl, _, rfl, At w, w, l1, .ref va, _, rfl, rfl, st1.ls, st1.W, st1.dv.weak fun b z => .inl z, view_pl wk (by omega), bd_mono (show 59 ≤ 190 by decide) _ (two_bd bW bG), fun H2 l2 v2 d2 k2 W2 hl2 q2 b2 _ => ?_⟩
          have st2 := st1.go k2 W2 hl2
          obtain ⟨x2, y2, e2, dx2, dy2⟩ := st2.two
          refine ⟨_, rfl, _, rfl, va, _, 1, y2, rfl, rfl, .of e2, rfl, At w, w, l2, y2, natsD g, rfl, rfl, st2.ls, st2.W, dy2, pl_up (pl_up (pl_up (nats_pl (by omega)))), bd_mono (show 59 ≤ 190 by decide) _ bG, fun H3 l3 v3 d3 k3 W3 hl3 q3 b3 _ => ?_⟩
          have st3 := st2.go k3 W3 hl3
          refine ⟨_, rfl, w, l3, rfl, st3.W, fun H4 l4 v4 d4 k4 W4 hl4 q4 b4 _ => ?_⟩
          have st4 := st3.go k4 W4 hl4
          have q4' : Dq (At w) H4 v4 d4 := q4.weak fun b z => st3.ls.old b z
          have q24 := (q2.keep k3).keep k4
          have q34 := q3.keep k4
          refine ⟨sz63 (by show 3 ≤ 1000; decide), fun L nL => ?_⟩
          have sL : Same H4 (upd H4 L (.lst [v2, v3, v4])) := same_new nL
          have eL : (upd H4 L (.lst [v2, v3, v4])) L = some (.lst [v2, v3, v4]) := upd_same
          generalize upd H4 L (.lst [v2, v3, v4]) = H5 at sL eL ⊢
          have st5 := st4.same sL
          have kL := Kp.same (W := At w) sL
          refine ⟨tA, L, acc, _, rfl, rfl, st5.eT, eL, sz63 (by show acc.length + 3 ≤ 1000; omega), fun p np => ?_⟩
          have b300 : ∀ {d}, Bd 210 d → Bd 300 d := fun {d} h => bd_mono (by decide) d h
          have st6 := st5.cat np (.cons (q24.keep kL) (.cons (q34.keep kL) (.cons (q4'.keep kL) .nil))) fun e he => by
            simp only [List.mem_cons, List.not_mem_nil, or_false] at he
            rcases he with rfl | rfl | rfl
            · exact b300 b2
            · exact b300 b3
            · exact bd_mono (show 160 ≤ 300 by decide) _ b4
          generalize upd H5 p (.lst (acc ++ [v2, v3, v4])) = H6 at st6 ⊢
          have la6 : (acc ++ [v2, v3, v4]).length = 10 + 5 * i := by
            rw [List.length_append, la]
            show 7 + 5 * i + 3 = _
            omega
          generalize acc ++ [v2, v3, v4] = acc6 at st6 la6 ⊢
          generalize hds : ds ++ [d2, d3, d4] = ds6 at st6
          clear hds st5 st4 st3 st2 st1 q24 q34 q4 q4' q2 q3 kL sL eL nL k2 k3 k4 W2 W3 W4 hl2 hl3 hl4 dx2 dy2 e2 b2 b3 b4 np
          obtain ⟨x6, y6', e6, dx6, dy6⟩ := st6.two2
          refine ⟨_, rfl, .inl ⟨rfl, _, .of st6.eT⟩, _, rfl, _, rfl, va, _, 0, x6, rfl, rfl, .of e6, rfl, SS w p, w, l4, x6, _, rfl, .inl rfl, st6.ls2, st6.W, dx6, pl_up (tab_pl wk), bd_mono (show 59 ≤ 190 by decide) _ bW, fun H7 l7 v7 d7 k7 W7 hl7 q7 b7 _ => ?_⟩
          have st7 := st6.go k7 W7 hl7
          obtain ⟨x7, y7, e7, dx7, dy7⟩ := st7.two2
          refine ⟨_, rfl, va, _, 1, y7, rfl, rfl, .of e7, rfl, sz63 (by show 2 ≤ 1000; decide), fun p8 np8 => ?_⟩
          have s8 : Same H7 (upd H7 p8 (.tup [v7, y7])) := same_new np8
          have d8 : Dq (SS w p) (upd H7 p8 (.tup [v7, y7])) (.ref p8) (.tuple [d7, natsD g]) := .tup (st7.pn np8) upd_same (.cons (q7.keep (Kp.same s8)) (.cons (dy7.keep (Kp.same s8)) .nil))
          generalize upd H7 p8 (.tup [v7, y7]) = H8 at s8 d8 ⊢
          have st8 := st7.same s8
          refine ⟨p, _, _, rfl, rfl, st8.eT, sz63' (by omega), ?_⟩
          have st9 := st8.push d8 (two_bd (b300 b7) (bd_mono (show 59 ≤ 300 by decide) _ bG))
          have la9 : (acc6 ++ [V.ref p8]).length = 11 + 5 * i := by
            rw [List.length_append, la6]
            show 10 + 5 * i + 1 = _
            omega
          generalize upd H8 p (.lst (acc6 ++ [V.ref p8])) = H9 at st9 ⊢
          generalize acc6 ++ [V.ref p8] = acc9 at st9 la9 ⊢
          generalize hds : ds6 ++ [.tuple [d7, natsD g]] = ds9 at st9
          clear hds st8 st7 st6 dx6 dy6 e6 k7 W7 hl7 q7 b7 dx7 dy7 e7 np8 s8 d8
          obtain ⟨x9, y9, e9, dx9, dy9⟩ := st9.two2
          refine ⟨_, rfl, .inl ⟨rfl, _, .of st9.eT⟩, _, rfl, va, _, 0, x9, rfl, rfl, .of e9, rfl, _, rfl, _, rfl, va, _, 1, y9, rfl, rfl, .of e9, rfl, SS w p, w, l7, y9, _, rfl, .inl rfl, st9.ls2, st9.W, dy9, pl_up (pl_up (pl_up (nats_pl (by omega)))), bd_mono (show 59 ≤ 190 by decide) _ bG, fun H10 l10 v10 d10 k10 W10 hl10 q10 b10 _ => ?_⟩
          have st10 := st9.go k10 W10 hl10
          have dx10 := dx9.keep (k10.mono fun b z => .inl z)
          refine ⟨sz63 (by show 2 ≤ 1000; decide), fun p11 np11 => ?_⟩
          have s11 : Same H10 (upd H10 p11 (.tup [x9, v10])) := same_new np11
          have d11 : Dq (SS w p) (upd H10 p11 (.tup [x9, v10])) (.ref p11) (.tuple [tabD (walkM Mw), d10]) := .tup (st10.pn np11) upd_same (.cons (dx10.keep (Kp.same s11)) (.cons (q10.keep (Kp.same s11)) .nil))
          generalize upd H10 p11 (.tup [x9, v10]) = H11 at s11 d11 ⊢
          have st11 := st10.same s11
          refine ⟨p, _, _, rfl, rfl, st11.eT, sz63' (by omega), ?_⟩
          exact ⟨p, l10, _, _, _, rfl, st11.push d11 (two_bd (bd_mono (show 59 ≤ 300 by decide) _ bW) (b300 b10)), by rw [List.length_append, la9]; show 11 + 5 * i + 1 = _; omega⟩
        · rintro σ H1 ⟨tA, l1, acc, ds, y6, rfl, st1, la⟩
          exact hN _ _ ⟨tA, l1, acc, ds, _, rfl, st1, la⟩
      clear st0
      rintro σ H1 ⟨tA, l1, acc, ds, y6, rfl, st1, la⟩
      refine seq_cut (fun σ H' => ∃ y7, σ = [some (.ref w), some (.int (n : Nat)), some (.ref va), some (.ref pn), some (.int (m : Nat)), some (.ref tA), y6, y7, none] ∧ Same H1 H') ?_ ?_
      rotate_left
      · intro N' hN
        refine ⟨_, rfl, tA, rfl, ⟨acc, .of st1.eT⟩, ?_⟩
        refine for_it (walk_list (K := K) (a := tA) (xs := acc)) (fun i σ H' => ∃ y7, σ = [some (.ref w), some (.int (n : Nat)), some (.ref va), some (.ref pn), some (.int (m : Nat)), some (.ref tA), y6, y7, none] ∧ Same H1 H') ⟨_, rfl, .refl _⟩ (fun i σ H' _ ⟨_, _, s⟩ => .of (s _ _ st1.eT)) ?_ ?_
        · rintro i x σ _ H2 hi ⟨y7, rfl, s2⟩ ⟨rfl, hx⟩
          obtain ⟨d, hd, dv⟩ := st1.al.at hx
          have bd := st1.bd d (List.mem_of_getElem? hd)
          refine ⟨_, rfl, _, rfl, SS w tA, x, d, n, rfl, dv.keep (Kp.same s2), bd, n1, n6, fun H3 s3 => ⟨_, rfl, ifF (fun z => nomatch z) ⟨_, rfl, _, rfl, SS w tA, x, d, m, rfl, dv.keep (Kp.same (s2.trans s3)), bd, m1, m6, fun H4 s4 => ⟨_, rfl, ifF (fun z => nomatch z) ?_⟩⟩⟩⟩
          exact ⟨_, rfl, (s2.trans s3).trans s4⟩
        · rintro σ H2 ⟨y7, rfl, s2⟩
          exact hN _ _ ⟨_, rfl, s2⟩
      rintro σ H2 ⟨y7, rfl, s2⟩
      have st2 := st1.same s2
      clear st1 s2
      have sh := shown_view wk (by omega) g264
      have b59 : ∀ {d}, Bd 59 d → Bd 300 d := fun {d} h => bd_mono (by decide) d h
      have igl : IsGl (lenD (tabD (walkM Mw))) (natsD g2) := by
        rw [lw]
        exact ig2
      have ig1' : IsGl (lenD (tabD (walkM Mw))) (natsD g) := by
        rw [lw]
        exact ig1
      refine ⟨_, rfl, _, rfl, SS w tA, .ref va, .ref pn, tabD (walkM Mw), g, g2, rfl, st2.dv, st2.dn, b59 (two_bd bW bG), iv, igl, kp2, fun v3 H3 s3 d3 => ?_⟩
      refine ⟨No, v3, _, rfl, d3, sh.1, sh.2.1, sh.2.2, ?_⟩
      have st3 := st2.same s3
      obtain ⟨x3, y3, e3, dx3, dy3⟩ := st3.two2
      refine ⟨_, rfl, va, _, 0, x3, rfl, rfl, .of e3, rfl, _, rfl, sz63 (by show 2 ≤ 1000; decide), fun p4 np4 => ?_⟩
      have s4 : Same H3 (upd H3 p4 (.tup [x3, .ref pn])) := same_new np4
      have d4 : Dq (SS w tA) (upd H3 p4 (.tup [x3, .ref pn])) (.ref p4) (.tuple [tabD (walkM Mw), natsD g2]) := .tup (st3.pn np4) upd_same (.cons (dx3.keep (Kp.same s4)) (.cons (st3.dn.keep (Kp.same s4)) .nil))
      generalize upd H3 p4 (.tup [x3, .ref pn]) = H4 at s4 d4 ⊢
      refine ⟨_, _, _, rfl, d4, sh.1, sh.2.1, sh.2.2, ⟨rfl, _, rfl, ifF (by simp) ?_⟩⟩
      have st4 := st3.same s4
      clear st3 st2 s4 d4 d3 s3 e3 dx3 dy3 np4
      dsimp only [tNext]
      obtain ⟨x4, y4, e4, dx4, dy4⟩ := st4.two2
      refine ⟨_, rfl, _, rfl, _, rfl, va, _, 1, y4, rfl, rfl, .of e4, rfl, SS w tA, .ref va, y4, tabD (walkM Mw), g, g, rfl, st4.dv, dy4, b59 (two_bd bW bG), iv, ig1', fun i j _ _ h => h, fun v5 H5 s5 d5 => ?_⟩
      have st5 := st4.same s5
      refine ⟨rfl, No, v5, .ref pn, tabD (walkM Mw), g, g2, rfl, d5, st5.dn.weak fun b z => z.elim, b59 (two_bd bW bG), iv, igl, kp2, fun v6 H6 s6 d6 => ?_⟩
      have st6 := st5.same s6
      obtain ⟨x6, y6', e6, dx6, dy6⟩ := st6.two2
      refine ⟨_, rfl, No, v6, _, rfl, d6, sh.1, sh.2.1, sh.2.2, ?_⟩
      refine ⟨_, rfl, va, _, 0, x6, rfl, rfl, .of e6, rfl, _, rfl, sz63 (by show 2 ≤ 1000; decide), fun p7 np7 => ?_⟩
      have s7 : Same H6 (upd H6 p7 (.tup [x6, .ref pn])) := same_new np7
      have d7 : Dq (SS w tA) (upd H6 p7 (.tup [x6, .ref pn])) (.ref p7) (.tuple [tabD (walkM Mw), natsD g2]) := .tup (st6.pn np7) upd_same (.cons (dx6.keep (Kp.same s7)) (.cons (st6.dn.keep (Kp.same s7)) .nil))
      generalize upd H6 p7 (.tup [x6, .ref pn]) = H7 at s7 d7 ⊢
      refine ⟨_, _, _, rfl, d7, sh.1, sh.2.1, sh.2.2, ⟨rfl, _, rfl, ifF (by simp) ?_⟩⟩
      have st7 := st6.same s7
      dsimp only [tNext]
      have iv2 : IsVw (.tuple [tabD (walkM Mw), natsD g2]) := ⟨_, _, rfl, iw, igl⟩
      refine ⟨_, rfl, rfl, No, v6, _, rfl, d6.keep (Kp.same s7), b59 (two_bd bW bN), fun b8 H8 s8 h8 => ?_⟩
      rw [h8.mpr iv2]
      have st8 := st7.same s8
      refine ⟨true, true, rfl, rfl, _, rfl, ifT rfl ?_⟩
      refine ⟨_, rfl, _, rfl, rfl, SS w tA, .ref pn, natsD g2, n, rfl, st8.dn, n1, n6, fun b9 H9 s9 h9 => ?_⟩
      rw [h9.mpr ig2]
      exact ⟨true, true, rfl, rfl, q H9 l1 (st8.W.same s9)⟩
def spLaw (K : PySem.W.Frag) : Sp := fun vs H Q _ => ∃ (a : Addr) (ns : List Int), vs = [.ref a] ∧ SqL K H a (ns.map V.int) ∧ ns.length ≤ 63 ∧ ∀ H', Q (.bl true) H'
theorem ok_law {f : Addr} {fd : FuncData} (F : Fun K "law" "law" slaw f fd) (M : Mb mg) (Dlaw_well : Df P w K mg base 1 "_law_well" ["script", "salt"] (spWell K)) (Dlaw_right : Dg P w K mg base 12 "_law_right" ["well"] spRight) :
    FnG P w K mg base 13 f fd ["script"] (spLaw K) := by
  refine okG F claw (fun vs H Q E h => ?_) (fun cdv _ outer s H vs Q E hG hr h => ?_)
  · obtain ⟨a, ns, rfl, _⟩ := h
    rfl
  · obtain ⟨a, ns, rfl, hS, hlen, q⟩ := h
    refine ⟨_, (pss_cons (ps_set (i := 1) claw.nd rfl (.inl rfl) (pe_call Dlaw_well.G (hr.mono (by first | decide | omega)) rfl Dlaw_well.g Dlaw_well.kp Dlaw_well.b .nil pass0 (pa_cons (pv 0) (pa_cons pe_int pa_nil))))
 (pss_cons (ps_for PassesOwn.never rfl (pi_range1 (by rfl) M.range (pa_cons pe_int pa_nil)) (pg_name (i := 2) claw.nd rfl (.inl rfl))
 (pss_one (ps_if (pt_not (pt_val (pe_callG Dlaw_right.G hG (hr.mono (by first | decide | omega)) rfl Dlaw_right.g Dlaw_right.kp Dlaw_right.b (pa_cons (pv 1) pa_nil))))
 (pss_one (ps_ret pe_bl))
 pss_nil)))
 (pss_one (ps_ret pe_bl)))), ?_⟩
    refine ⟨_, rfl, a, ns, 35, rfl, hS, hlen, fun H1 w n1 s1 W1 => ?_⟩
    obtain ⟨l1, W1⟩ := W1
    refine ⟨2, rfl, by decide, by decide, for_range (lo := 0) (n := 2) (fun i σ H' => ∃ y l', σ = [some (.ref a), some (.ref w), y] ∧ WellAt w l' H') ⟨none, l1, rfl, W1⟩ ?_ ?_⟩
    · rintro i σ H2 hi ⟨y, l2, rfl, W2⟩
      exact ⟨_, rfl, w, l2, rfl, W2, fun H3 l3 W3 => ⟨_, rfl, ifF (by simp) ⟨_, l3, rfl, W3⟩⟩⟩
    · rintro σ H2 ⟨y, l2, rfl, W2⟩
      exact q H2
end
end Kx
/-! What the top has written; the end. -/
namespace Kx
open PySem PySem.Spec PyProof.Rows L2 Bw
/-- a def as the top has written it -/
def DefR (K : PySem.W.Frag) (x : Str) (st : Stmt) : Prop := ∃ (f : Addr) (oc : Value) (od : Option Addr) (kV doc pm : Value) (an : Option Addr) (cdv ct : Value) (osl : Array (Option Value)),
  PySem.W.nsIn K mainGlobals x = some (some (.ref f)) ∧ K.lookup f = some ⟨oc, od, .func (PySem.W.fnOf x x (defArgs st) (defBody st) (defScope st) .none kV doc pm an cdv ct), osl⟩ ∧ PySem.W.codeIn K cdv x = true ∧
  PySem.W.keepIn K (.ref f) = true
/-- a pair that stands at the top -/
def PairR (K : PySem.W.Frag) (x : Str) (i j : Int) : Prop := ∃ (a : Addr) (dd : Option Addr) (t u : Tok) (n : Nat) (sl : Array (Option Value)), PySem.W.nsIn K mainGlobals x = some (some (.ref a)) ∧ K.lookup a = some ⟨.type "tuple", dd, .seq #[.int i t, .int j u] n, sl⟩
section
variable {P : Program} {w : World} {K : PySem.W.Frag} {mg : Str → Option Value} {base h : Heap}
theorem def_of {x : Str} {st : Stmt} (X : K.In h) (G : h.Ns mainGlobals mg) (r : DefR K x st) : ∃ f fd, Fun K x x st f fd ∧ mg x = some (.ref f) := by
  obtain ⟨f, oc, od, kV, doc, pm, an, cdv, ct, osl, a, l, c, k⟩ := r
  exact ⟨f, _, fun_mk (st := st) l c k, PySem.W.mg_of X G a⟩
theorem pair_of {x : Str} {i j : Int} (X : K.In h) (G : h.Ns mainGlobals mg) (r : PairR K x i j) : ∃ a, mg x = some (.ref a) ∧ ∀ H, SqT K H a [.int i, .int j] := by
  obtain ⟨a, dd, t, u, n, sl, h1, h2⟩ := r
  exact ⟨a, PySem.W.mg_of X G h1, fun H => .inr ⟨_, _, n, h2, rfl, rfl, sz63 (by show 2 ≤ 1000; decide), .cons ⟨t, rfl⟩ (.cons ⟨u, rfl⟩ .nil)⟩⟩
theorem kwn_of {x : Str} {st : Stmt} {f : Addr} {fd : FuncData} {ps : List Str} (F : Fun K x x st f fd) (hh : ∀ (kV doc pm : Value) (an : Option Addr) (cdv ct : Value) (ws : List Value), ws.length = ps.length →
    bindArgs (PySem.W.fnOf x x (defArgs st) (defBody st) (defScope st) .none kV doc pm an cdv ct) ⟨[], ps.zip ws⟩ = pure (ps.zip ws)) : ∀ (s : Shared) (ws : List Value), K.In s.heap → ws.length = ps.length → BindsTo s fd ⟨[], ps.zip ws⟩ (ps.zip ws) := by
  obtain ⟨oc, od, kV, doc, pm, an, cdv, ct, osl, rfl, _, _⟩ := F.ex
  exact fun s ws _ hl => .of_eq (hh kV doc pm an cdv ct ws hl)
theorem kwn2_of {x : Str} {st : Stmt} {f : Addr} {fd : FuncData} {x1 x2 : Str} (F : Fun K x x st f fd) (hh : ∀ (kV doc pm : Value) (an : Option Addr) (cdv ct a b : Value),
    bindArgs (PySem.W.fnOf x x (defArgs st) (defBody st) (defScope st) .none kV doc pm an cdv ct) ⟨[], [(x2, a), (x1, b)]⟩ = pure [(x1, b), (x2, a)]) : ∀ (s : Shared) (a b : Value), K.In s.heap → BindsTo s fd ⟨[], [(x2, a), (x1, b)]⟩ [(x1, b), (x2, a)] := by
  obtain ⟨oc, od, kV, doc, pm, an, cdv, ct, osl, rfl, _, _⟩ := F.ex
  exact fun s a b _ => .of_eq (hh kV doc pm an cdv ct a b)
theorem kwp_of {x : Str} {st : Stmt} {f : Addr} {fd : FuncData} {ks ps : List Str} {π : List Nat} (F : Fun K x x st f fd) (hh : ∀ (kV doc pm : Value) (an : Option Addr) (cdv ct : Value) (ws : List Value), ws.length = ks.length →
    bindArgs (PySem.W.fnOf x x (defArgs st) (defBody st) (defScope st) .none kV doc pm an cdv ct) ⟨[], ks.zip ws⟩ = pure (ps.zip (π.map fun i => ws.getD i .none))) : ∀ (s : Shared) (ws : List Value), K.In s.heap → ws.length = ks.length → BindsTo s fd ⟨[], ks.zip ws⟩ (ps.zip (π.map fun i => ws.getD i .none)) := by
  obtain ⟨oc, od, kV, doc, pm, an, cdv, ct, osl, rfl, _, _⟩ := F.ex
  exact fun s ws _ hl => .of_eq (hh kV doc pm an cdv ct ws hl)
theorem law_binds {f : Addr} {fd : FuncData} (F : Fun K "law" "law" slaw f fd) (s : Shared) (u : Value) : BindsTo s fd ⟨[u], []⟩ [("script", u)] := by
  obtain ⟨oc, od, kV, doc, pm, an, cdv, ct, osl, rfl, _, _⟩ := F.ex
  exact .of_eq rfl
/-- all defs -/
theorem all_mk {fa : Addr} (X : K.In h) (G : h.Ns mainGlobals mg) (hfa : mg "law" = some (.ref fa))
    (dis_whole : DefR K "is_whole" sis_whole)
    (dis_fraction : DefR K "is_fraction" sis_fraction)
    (dis_from_nil : DefR K "is_from_nil" sis_from_nil)
    (dlowest : DefR K "lowest" slowest)
    (dplus : DefR K "plus" splus)
    (dtotal : DefR K "total" stotal)
    (dis_table_row : DefR K "is_table_row" sis_table_row)
    (dis_table : DefR K "is_table" sis_table)
    (dleads_to_all : DefR K "leads_to_all" sleads_to_all)
    (dis_whole_table : DefR K "is_whole_table" sis_whole_table)
    (dis_walk : DefR K "is_walk" sis_walk)
    (dare_marks : DefR K "are_marks" sare_marks)
    (dis_glasses : DefR K "is_glasses" sis_glasses)
    (dis_sighted : DefR K "is_sighted" sis_sighted)
    (dcheck_sighted : DefR K "check_sighted" scheck_sighted)
    (dkeeps_together : DefR K "keeps_together" skeeps_together)
    (dput_together : DefR K "put_together" sput_together)
    (d_law_well : DefR K "_law_well" s_law_well)
    (d_law_draw : DefR K "_law_draw" s_law_draw)
    (d_law_pick : DefR K "_law_pick" s_law_pick)
    (d_law_low : DefR K "_law_low" s_law_low)
    (d_law_add : DefR K "_law_add" s_law_add)
    (d_law_div : DefR K "_law_div" s_law_div)
    (d_law_total : DefR K "_law_total" s_law_total)
    (d_law_over : DefR K "_law_over" s_law_over)
    (d_law_order : DefR K "_law_order" s_law_order)
    (d_law_heft : DefR K "_law_heft" s_law_heft)
    (d_law_marks : DefR K "_law_marks" s_law_marks)
    (d_law_wheel : DefR K "_law_wheel" s_law_wheel)
    (d_law_walk_of : DefR K "_law_walk_of" s_law_walk_of)
    (d_law_bars : DefR K "_law_bars" s_law_bars)
    (d_law_any_walk : DefR K "_law_any_walk" s_law_any_walk)
    (d_law_going : DefR K "_law_going" s_law_going)
    (d_law_view : DefR K "_law_view" s_law_view)
    (d_law_odd : DefR K "_law_odd" s_law_odd)
    (d_law_bent : DefR K "_law_bent" s_law_bent)
    (d_law_is_int : DefR K "_law_is_int" s_law_is_int)
    (d_law_is_row : DefR K "_law_is_row" s_law_is_row)
    (d_law_is_frac : DefR K "_law_is_frac" s_law_is_frac)
    (d_law_is_fracs : DefR K "_law_is_fracs" s_law_is_fracs)
    (d_law_is_square : DefR K "_law_is_square" s_law_is_square)
    (d_law_reached : DefR K "_law_reached" s_law_reached)
    (d_law_is_whole : DefR K "_law_is_whole" s_law_is_whole)
    (d_law_is_walk : DefR K "_law_is_walk" s_law_is_walk)
    (d_law_is_glasses : DefR K "_law_is_glasses" s_law_is_glasses)
    (d_law_is_view : DefR K "_law_is_view" s_law_is_view)
    (d_law_merged : DefR K "_law_merged" s_law_merged)
    (d_law_through : DefR K "_law_through" s_law_through)
    (d_law_is_judged : DefR K "_law_is_judged" s_law_is_judged)
    (d_law_right : DefR K "_law_right" s_law_right)
    (dlaw : DefR K "law" slaw)
    (zint : PySem.W.nsIn K mainGlobals "int" = some none)
    (zlen : PySem.W.nsIn K mainGlobals "len" = some none)
    (zabs : PySem.W.nsIn K mainGlobals "abs" = some none)
    (zdivmod : PySem.W.nsIn K mainGlobals "divmod" = some none)
    (zrange : PySem.W.nsIn K mainGlobals "range" = some none)
    (zenumerate : PySem.W.nsIn K mainGlobals "enumerate" = some none)
    (zisinstance : PySem.W.nsIn K mainGlobals "isinstance" = some none)
    (zrepr : PySem.W.nsIn K mainGlobals "repr" = some none)
    (ztuple : PySem.W.nsIn K mainGlobals "tuple" = some none)
    (zlist : PySem.W.nsIn K mainGlobals "list" = some none)
    (zall : PySem.W.nsIn K mainGlobals "all" = some none)
    (zzip : PySem.W.nsIn K mainGlobals "zip" = some none)
    (zstr : PySem.W.nsIn K mainGlobals "str" = some none)
    (zbool : PySem.W.nsIn K mainGlobals "bool" = some none)
    (zset : PySem.W.nsIn K mainGlobals "set" = some none)
    (zmin : PySem.W.nsIn K mainGlobals "min" = some none)
    (zmax : PySem.W.nsIn K mainGlobals "max" = some none)
    (zsorted : PySem.W.nsIn K mainGlobals "sorted" = some none)
    (zsum : PySem.W.nsIn K mainGlobals "sum" = some none)
    (pn : PairR K "NIL" 0 1) (po : PairR K "ONE" 1 1) (pg : PySem.W.nsIn K mainGlobals "gcd" = some (some (.builtin "math.gcd"))) (pm : ∃ t : Tok, PySem.W.nsIn K mainGlobals "MOST_PLACES" = some (some (.int 6 t)))
    : ∃ fd : FuncData, (∀ (s : Shared) (u : Value), BindsTo s fd ⟨[u], []⟩ [("script", u)]) ∧ ∀ base : Heap, K.In base → base.Ns mainGlobals mg → FnG P w K mg base 13 fa fd ["script"] (spLaw K) := by
  have M : Mb mg := ⟨PySem.W.mg_none_of X G zint, PySem.W.mg_none_of X G zlen, PySem.W.mg_none_of X G zabs, PySem.W.mg_none_of X G zdivmod, PySem.W.mg_none_of X G zrange, PySem.W.mg_none_of X G zenumerate, PySem.W.mg_none_of X G zisinstance, PySem.W.mg_none_of X G zrepr, PySem.W.mg_none_of X G ztuple, PySem.W.mg_none_of X G zlist, PySem.W.mg_none_of X G zall, PySem.W.mg_none_of X G zzip, PySem.W.mg_none_of X G zstr, PySem.W.mg_none_of X G zbool, PySem.W.mg_none_of X G zset, PySem.W.mg_none_of X G zmin, PySem.W.mg_none_of X G zmax, PySem.W.mg_none_of X G zsorted⟩
  obtain ⟨an, gn, tn⟩ := pair_of X G pn
  obtain ⟨ao, go, to⟩ := pair_of X G po
  obtain ⟨tm, gm⟩ := pm
  let Z : Mp K mg := ⟨PySem.W.mg_of X G pg, an, gn, tn, ao, go, to, tm, PySem.W.mg_of X G gm⟩
  let MS : MbS mg := ⟨M, PySem.W.mg_none_of X G zsum⟩
  obtain ⟨fis_whole, fdis_whole, Fis_whole, gis_whole⟩ := def_of X G dis_whole
  obtain ⟨fis_fraction, fdis_fraction, Fis_fraction, gis_fraction⟩ := def_of X G dis_fraction
  obtain ⟨fis_from_nil, fdis_from_nil, Fis_from_nil, gis_from_nil⟩ := def_of X G dis_from_nil
  obtain ⟨flowest, fdlowest, Flowest, glowest⟩ := def_of X G dlowest
  obtain ⟨fplus, fdplus, Fplus, gplus⟩ := def_of X G dplus
  obtain ⟨ftotal, fdtotal, Ftotal, gtotal⟩ := def_of X G dtotal
  obtain ⟨fis_table_row, fdis_table_row, Fis_table_row, gis_table_row⟩ := def_of X G dis_table_row
  obtain ⟨fis_table, fdis_table, Fis_table, gis_table⟩ := def_of X G dis_table
  obtain ⟨fleads_to_all, fdleads_to_all, Fleads_to_all, gleads_to_all⟩ := def_of X G dleads_to_all
  obtain ⟨fis_whole_table, fdis_whole_table, Fis_whole_table, gis_whole_table⟩ := def_of X G dis_whole_table
  obtain ⟨fis_walk, fdis_walk, Fis_walk, gis_walk⟩ := def_of X G dis_walk
  obtain ⟨fare_marks, fdare_marks, Fare_marks, gare_marks⟩ := def_of X G dare_marks
  obtain ⟨fis_glasses, fdis_glasses, Fis_glasses, gis_glasses⟩ := def_of X G dis_glasses
  obtain ⟨fis_sighted, fdis_sighted, Fis_sighted, gis_sighted⟩ := def_of X G dis_sighted
  obtain ⟨fcheck_sighted, fdcheck_sighted, Fcheck_sighted, gcheck_sighted⟩ := def_of X G dcheck_sighted
  obtain ⟨fkeeps_together, fdkeeps_together, Fkeeps_together, gkeeps_together⟩ := def_of X G dkeeps_together
  obtain ⟨fput_together, fdput_together, Fput_together, gput_together⟩ := def_of X G dput_together
  obtain ⟨f_law_well, fd_law_well, F_law_well, g_law_well⟩ := def_of X G d_law_well
  obtain ⟨f_law_draw, fd_law_draw, F_law_draw, g_law_draw⟩ := def_of X G d_law_draw
  obtain ⟨f_law_pick, fd_law_pick, F_law_pick, g_law_pick⟩ := def_of X G d_law_pick
  obtain ⟨f_law_low, fd_law_low, F_law_low, g_law_low⟩ := def_of X G d_law_low
  obtain ⟨f_law_add, fd_law_add, F_law_add, g_law_add⟩ := def_of X G d_law_add
  obtain ⟨f_law_div, fd_law_div, F_law_div, g_law_div⟩ := def_of X G d_law_div
  obtain ⟨f_law_total, fd_law_total, F_law_total, g_law_total⟩ := def_of X G d_law_total
  obtain ⟨f_law_over, fd_law_over, F_law_over, g_law_over⟩ := def_of X G d_law_over
  obtain ⟨f_law_order, fd_law_order, F_law_order, g_law_order⟩ := def_of X G d_law_order
  obtain ⟨f_law_heft, fd_law_heft, F_law_heft, g_law_heft⟩ := def_of X G d_law_heft
  obtain ⟨f_law_marks, fd_law_marks, F_law_marks, g_law_marks⟩ := def_of X G d_law_marks
  obtain ⟨f_law_wheel, fd_law_wheel, F_law_wheel, g_law_wheel⟩ := def_of X G d_law_wheel
  obtain ⟨f_law_walk_of, fd_law_walk_of, F_law_walk_of, g_law_walk_of⟩ := def_of X G d_law_walk_of
  obtain ⟨f_law_bars, fd_law_bars, F_law_bars, g_law_bars⟩ := def_of X G d_law_bars
  obtain ⟨f_law_any_walk, fd_law_any_walk, F_law_any_walk, g_law_any_walk⟩ := def_of X G d_law_any_walk
  obtain ⟨f_law_going, fd_law_going, F_law_going, g_law_going⟩ := def_of X G d_law_going
  obtain ⟨f_law_view, fd_law_view, F_law_view, g_law_view⟩ := def_of X G d_law_view
  obtain ⟨f_law_odd, fd_law_odd, F_law_odd, g_law_odd⟩ := def_of X G d_law_odd
  obtain ⟨f_law_bent, fd_law_bent, F_law_bent, g_law_bent⟩ := def_of X G d_law_bent
  obtain ⟨f_law_is_int, fd_law_is_int, F_law_is_int, g_law_is_int⟩ := def_of X G d_law_is_int
  obtain ⟨f_law_is_row, fd_law_is_row, F_law_is_row, g_law_is_row⟩ := def_of X G d_law_is_row
  obtain ⟨f_law_is_frac, fd_law_is_frac, F_law_is_frac, g_law_is_frac⟩ := def_of X G d_law_is_frac
  obtain ⟨f_law_is_fracs, fd_law_is_fracs, F_law_is_fracs, g_law_is_fracs⟩ := def_of X G d_law_is_fracs
  obtain ⟨f_law_is_square, fd_law_is_square, F_law_is_square, g_law_is_square⟩ := def_of X G d_law_is_square
  obtain ⟨f_law_reached, fd_law_reached, F_law_reached, g_law_reached⟩ := def_of X G d_law_reached
  obtain ⟨f_law_is_whole, fd_law_is_whole, F_law_is_whole, g_law_is_whole⟩ := def_of X G d_law_is_whole
  obtain ⟨f_law_is_walk, fd_law_is_walk, F_law_is_walk, g_law_is_walk⟩ := def_of X G d_law_is_walk
  obtain ⟨f_law_is_glasses, fd_law_is_glasses, F_law_is_glasses, g_law_is_glasses⟩ := def_of X G d_law_is_glasses
  obtain ⟨f_law_is_view, fd_law_is_view, F_law_is_view, g_law_is_view⟩ := def_of X G d_law_is_view
  obtain ⟨f_law_merged, fd_law_merged, F_law_merged, g_law_merged⟩ := def_of X G d_law_merged
  obtain ⟨f_law_through, fd_law_through, F_law_through, g_law_through⟩ := def_of X G d_law_through
  obtain ⟨f_law_is_judged, fd_law_is_judged, F_law_is_judged, g_law_is_judged⟩ := def_of X G d_law_is_judged
  obtain ⟨f_law_right, fd_law_right, F_law_right, g_law_right⟩ := def_of X G d_law_right
  obtain ⟨flaw, fdlaw, Flaw, glaw⟩ := def_of X G dlaw
  have e := hfa.symm.trans glaw
  cases e
  refine ⟨fdlaw, law_binds Flaw, fun base _ _ => ?_⟩
  let Dis_whole : Df P w K mg base 1 "is_whole" ["value"] _ := ⟨fis_whole, fdis_whole, gis_whole, Fis_whole.kp, (Fis_whole.binds (ps := ["value"]) fun _ _ _ _ _ _ us hl => match us, hl with | [_], _ => rfl), ok_is_whole Fis_whole M⟩
  let Dis_fraction : Df P w K mg base 2 "is_fraction" ["value"] _ := ⟨fis_fraction, fdis_fraction, gis_fraction, Fis_fraction.kp, (Fis_fraction.binds (ps := ["value"]) fun _ _ _ _ _ _ us hl => match us, hl with | [_], _ => rfl), ok_is_fraction Fis_fraction M Z Dis_whole⟩
  let Dis_from_nil : Df P w K mg base 3 "is_from_nil" ["value"] _ := ⟨fis_from_nil, fdis_from_nil, gis_from_nil, Fis_from_nil.kp, (Fis_from_nil.binds (ps := ["value"]) fun _ _ _ _ _ _ us hl => match us, hl with | [_], _ => rfl), ok_is_from_nil Fis_from_nil M Dis_fraction⟩
  let Dlowest : Df P w K mg base 1 "lowest" ["top", "bottom"] _ := ⟨flowest, fdlowest, glowest, Flowest.kp, (Flowest.binds (ps := ["top", "bottom"]) fun _ _ _ _ _ _ us hl => match us, hl with | [_, _], _ => rfl), ok_lowest Flowest M Z⟩
  let Dplus : Df P w K mg base 2 "plus" ["one", "other"] _ := ⟨fplus, fdplus, gplus, Fplus.kp, (Fplus.binds (ps := ["one", "other"]) fun _ _ _ _ _ _ us hl => match us, hl with | [_, _], _ => rfl), ok_plus Fplus M Dlowest⟩
  let Dtotal : Df P w K mg base 3 "total" ["fractions"] _ := ⟨ftotal, fdtotal, gtotal, Ftotal.kp, (Ftotal.binds (ps := ["fractions"]) fun _ _ _ _ _ _ us hl => match us, hl with | [_], _ => rfl), ok_total Ftotal M Z Dplus⟩
  let Dis_table_row : Df P w K mg base 4 "is_table_row" ["value", "many"] _ := ⟨fis_table_row, fdis_table_row, gis_table_row, Fis_table_row.kp, (Fis_table_row.binds (ps := ["value", "many"]) fun _ _ _ _ _ _ us hl => match us, hl with | [_, _], _ => rfl), ok_is_table_row Fis_table_row M Dis_from_nil⟩
  let Dis_table : Df P w K mg base 5 "is_table" ["value"] _ := ⟨fis_table, fdis_table, gis_table, Fis_table.kp, (Fis_table.binds (ps := ["value"]) fun _ _ _ _ _ _ us hl => match us, hl with | [_], _ => rfl), ok_is_table Fis_table M Z Dis_table_row⟩
  let Dleads_to_all : Df P w K mg base 1 "leads_to_all" ["links"] _ := ⟨fleads_to_all, fdleads_to_all, gleads_to_all, Fleads_to_all.kp, (Fleads_to_all.binds (ps := ["links"]) fun _ _ _ _ _ _ us hl => match us, hl with | [_], _ => rfl), ok_leads Fleads_to_all M⟩
  let Dis_whole_table : Df P w K mg base 2 "is_whole_table" ["table"] _ := ⟨fis_whole_table, fdis_whole_table, gis_whole_table, Fis_whole_table.kp, (Fis_whole_table.binds (ps := ["table"]) fun _ _ _ _ _ _ us hl => match us, hl with | [_], _ => rfl), ok_whole Fis_whole_table M Dleads_to_all⟩
  let Dis_walk : Df P w K mg base 6 "is_walk" ["value"] _ := ⟨fis_walk, fdis_walk, gis_walk, Fis_walk.kp, (Fis_walk.binds (ps := ["value"]) fun _ _ _ _ _ _ us hl => match us, hl with | [_], _ => rfl), ok_is_walk (n := 300) (by decide) Fis_walk M Z Dis_table Dis_whole_table Dtotal⟩
  let Dare_marks : Df P w K mg base 2 "are_marks" ["many", "value"] _ := ⟨fare_marks, fdare_marks, gare_marks, Fare_marks.kp, (Fare_marks.binds (ps := ["many", "value"]) fun _ _ _ _ _ _ us hl => match us, hl with | [_, _], _ => rfl), ok_aremarks Fare_marks M Dis_whole⟩
  let Dis_glasses : Df P w K mg base 3 "is_glasses" ["many", "value"] _ := ⟨fis_glasses, fdis_glasses, gis_glasses, Fis_glasses.kp, (Fis_glasses.binds (ps := ["many", "value"]) fun _ _ _ _ _ _ us hl => match us, hl with | [_, _], _ => rfl), ok_isglasses Fis_glasses M Z Dis_whole Dare_marks⟩
  have Nis_glasses_10 := kwp_of (ks := ["value", "many"]) (ps := ["many", "value"]) (π := [1, 0]) Fis_glasses fun _ _ _ _ _ _ ws hl => match ws, hl with | [_, _], _ => rfl
  let Dis_sighted : Df P w K mg base 7 "is_sighted" ["value"] _ := ⟨fis_sighted, fdis_sighted, gis_sighted, Fis_sighted.kp, (Fis_sighted.binds (ps := ["value"]) fun _ _ _ _ _ _ us hl => match us, hl with | [_], _ => rfl), ok_issight (n := 300) Fis_sighted M Dis_walk Dare_marks⟩
  have Nis_sighted_0 := kwp_of (ks := ["value"]) (ps := ["value"]) (π := [0]) Fis_sighted fun _ _ _ _ _ _ ws hl => match ws, hl with | [_], _ => rfl
  let Dcheck_sighted : Df P w K mg base 8 "check_sighted" ["sighted"] _ := ⟨fcheck_sighted, fdcheck_sighted, gcheck_sighted, Fcheck_sighted.kp, (Fcheck_sighted.binds (ps := ["sighted"]) fun _ _ _ _ _ _ us hl => match us, hl with | [_], _ => rfl), ok_chs (n := 300) Fcheck_sighted M Dis_sighted⟩
  let Dkeeps_together : Df P w K mg base 1 "keeps_together" ["glasses", "own"] _ := ⟨fkeeps_together, fdkeeps_together, gkeeps_together, Fkeeps_together.kp, (Fkeeps_together.binds (ps := ["glasses", "own"]) fun _ _ _ _ _ _ us hl => match us, hl with | [_, _], _ => rfl), ok_kt Fkeeps_together M⟩
  let Dput_together : Df P w K mg base 9 "put_together" ["sighted", "glasses"] _ := ⟨fput_together, fdput_together, gput_together, Fput_together.kp, (Fput_together.binds (ps := ["sighted", "glasses"]) fun _ _ _ _ _ _ us hl => match us, hl with | [_, _], _ => rfl), ok_put (n := 300) Fput_together M Dcheck_sighted Dare_marks Dkeeps_together⟩
  have Nput_together_10 := kwp_of (ks := ["glasses", "sighted"]) (ps := ["sighted", "glasses"]) (π := [1, 0]) Fput_together fun _ _ _ _ _ _ ws hl => match ws, hl with | [_, _], _ => rfl
  let Dlaw_well : Df P w K mg base 1 "_law_well" ["script", "salt"] _ := ⟨f_law_well, fd_law_well, g_law_well, F_law_well.kp, (F_law_well.binds (ps := ["script", "salt"]) fun _ _ _ _ _ _ us hl => match us, hl with | [_, _], _ => rfl), ok_well F_law_well M⟩
  let Dlaw_draw : Df P w K mg base 1 "_law_draw" ["well", "limit"] _ := ⟨f_law_draw, fd_law_draw, g_law_draw, F_law_draw.kp, (F_law_draw.binds (ps := ["well", "limit"]) fun _ _ _ _ _ _ us hl => match us, hl with | [_, _], _ => rfl), ok_pickL F_law_draw M⟩
  let Dlaw_pick : Df P w K mg base 2 "_law_pick" ["well", "some"] _ := ⟨f_law_pick, fd_law_pick, g_law_pick, F_law_pick.kp, (F_law_pick.binds (ps := ["well", "some"]) fun _ _ _ _ _ _ us hl => match us, hl with | [_, _], _ => rfl), ok_ofL F_law_pick M Dlaw_draw⟩
  let Dlaw_low : Df P w K mg base 1 "_law_low" ["up", "down"] _ := ⟨f_law_low, fd_law_low, g_law_low, F_law_low.kp, (F_law_low.binds (ps := ["up", "down"]) fun _ _ _ _ _ _ us hl => match us, hl with | [_, _], _ => rfl), ok_lfrac F_law_low M⟩
  let Dlaw_add : Df P w K mg base 2 "_law_add" ["x", "y"] _ := ⟨f_law_add, fd_law_add, g_law_add, F_law_add.kp, (F_law_add.binds (ps := ["x", "y"]) fun _ _ _ _ _ _ us hl => match us, hl with | [_, _], _ => rfl), ok_lplus F_law_add M Dlaw_low⟩
  let Dlaw_div : Df P w K mg base 2 "_law_div" ["x", "y"] _ := ⟨f_law_div, fd_law_div, g_law_div, F_law_div.kp, (F_law_div.binds (ps := ["x", "y"]) fun _ _ _ _ _ _ us hl => match us, hl with | [_, _], _ => rfl), ok_lover F_law_div M Dlaw_low⟩
  let DtotT : Df P w K mg base 3 "_law_total" ["some"] _ := ⟨f_law_total, fd_law_total, g_law_total, F_law_total.kp, (F_law_total.binds (ps := ["some"]) fun _ _ _ _ _ _ us hl => match us, hl with | [_], _ => rfl), ok_ltotalT F_law_total M Dlaw_add⟩
  let DosT : Df P w K mg base 4 "_law_over" ["each"] _ := ⟨f_law_over, fd_law_over, g_law_over, F_law_over.kp, (F_law_over.binds (ps := ["each"]) fun _ _ _ _ _ _ us hl => match us, hl with | [_], _ => rfl), ok_loversumT F_law_over M Dlaw_div DtotT⟩
  let Dlaw_order : Df P w K mg base 2 "_law_order" ["well", "size"] _ := ⟨f_law_order, fd_law_order, g_law_order, F_law_order.kp, (F_law_order.binds (ps := ["well", "size"]) fun _ _ _ _ _ _ us hl => match us, hl with | [_, _], _ => rfl), ok_lorder F_law_order M Dlaw_draw⟩
  let Dlaw_heft : Df P w K mg base 2 "_law_heft" ["well"] _ := ⟨f_law_heft, fd_law_heft, g_law_heft, F_law_heft.kp, (F_law_heft.binds (ps := ["well"]) fun _ _ _ _ _ _ us hl => match us, hl with | [_], _ => rfl), ok_lheft F_law_heft M Dlaw_draw Dlaw_low⟩
  let Dlaw_marks : Df P w K mg base 3 "_law_marks" ["well", "size", "top"] _ := ⟨f_law_marks, fd_law_marks, g_law_marks, F_law_marks.kp, (F_law_marks.binds (ps := ["well", "size", "top"]) fun _ _ _ _ _ _ us hl => match us, hl with | [_, _, _], _ => rfl), ok_lmarks F_law_marks M Dlaw_draw Dlaw_order⟩
  let Dlaw_wheel : Df P w K mg base 3 "_law_wheel" ["well", "size"] _ := ⟨f_law_wheel, fd_law_wheel, g_law_wheel, F_law_wheel.kp, (F_law_wheel.binds (ps := ["well", "size"]) fun _ _ _ _ _ _ us hl => match us, hl with | [_, _], _ => rfl), ok_lwheel F_law_wheel M Dlaw_order⟩
  let Dlaw_walk_of : Df P w K mg base 5 "_law_walk_of" ["bars"] _ := ⟨f_law_walk_of, fd_law_walk_of, g_law_walk_of, F_law_walk_of.kp, (F_law_walk_of.binds (ps := ["bars"]) fun _ _ _ _ _ _ us hl => match us, hl with | [_], _ => rfl), ok_lwalkby F_law_walk_of M DosT⟩
  let Dlaw_bars : Df P w K mg base 3 "_law_bars" ["well", "size", "most"] _ := ⟨f_law_bars, fd_law_bars, g_law_bars, F_law_bars.kp, (F_law_bars.binds (ps := ["well", "size", "most"]) fun _ _ _ _ _ _ us hl => match us, hl with | [_, _, _], _ => rfl), ok_lbars F_law_bars M Dlaw_draw Dlaw_order Dlaw_heft⟩
  let Dlaw_any_walk : Df P w K mg base 3 "_law_any_walk" ["well", "size"] _ := ⟨f_law_any_walk, fd_law_any_walk, g_law_any_walk, F_law_any_walk.kp, (F_law_any_walk.binds (ps := ["well", "size"]) fun _ _ _ _ _ _ us hl => match us, hl with | [_, _], _ => rfl), ok_lanywalk F_law_any_walk MS Dlaw_draw Dlaw_order Dlaw_low⟩
  let Dlaw_going : Df P w K mg base 6 "_law_going" ["well", "size"] _ := ⟨f_law_going, fd_law_going, g_law_going, F_law_going.kp, (F_law_going.binds (ps := ["well", "size"]) fun _ _ _ _ _ _ us hl => match us, hl with | [_, _], _ => rfl), ok_lgoing F_law_going M Dlaw_draw Dlaw_bars Dlaw_walk_of Dlaw_wheel Dlaw_any_walk⟩
  let Dlaw_view : Df P w K mg base 7 "_law_view" ["well", "size", "most"] _ := ⟨f_law_view, fd_law_view, g_law_view, F_law_view.kp, (F_law_view.binds (ps := ["well", "size", "most"]) fun _ _ _ _ _ _ us hl => match us, hl with | [_, _, _], _ => rfl), ok_lview F_law_view M Dlaw_draw Dlaw_going Dlaw_marks⟩
  let Dlaw_odd : Df P w K mg base 3 "_law_odd" ["well"] _ := ⟨f_law_odd, fd_law_odd, g_law_odd, F_law_odd.kp, (F_law_odd.binds (ps := ["well"]) fun _ _ _ _ _ _ us hl => match us, hl with | [_], _ => rfl), ok_odd F_law_odd M Dlaw_pick⟩
  let Dlaw_bent : Df P w K mg base 10 "_law_bent" ["well", "thing"] _ := ⟨f_law_bent, fd_law_bent, g_law_bent, F_law_bent.kp, (F_law_bent.binds (ps := ["well", "thing"]) fun _ _ _ _ _ _ us hl => match us, hl with | [_, _], _ => rfl), ok_bent F_law_bent M g_law_bent F_law_bent.kp (F_law_bent.binds (ps := ["well", "thing"]) fun _ _ _ _ _ _ us hl => match us, hl with | [_, _], _ => rfl) Dlaw_draw Dlaw_odd 5⟩
  let Dlaw_is_int : Df P w K mg base 1 "_law_is_int" ["thing"] _ := ⟨f_law_is_int, fd_law_is_int, g_law_is_int, F_law_is_int.kp, (F_law_is_int.binds (ps := ["thing"]) fun _ _ _ _ _ _ us hl => match us, hl with | [_], _ => rfl), ok_lnum F_law_is_int M⟩
  let Dlaw_is_row : Df P w K mg base 1 "_law_is_row" ["thing", "size"] _ := ⟨f_law_is_row, fd_law_is_row, g_law_is_row, F_law_is_row.kp, (F_law_is_row.binds (ps := ["thing", "size"]) fun _ _ _ _ _ _ us hl => match us, hl with | [_, _], _ => rfl), ok_llen F_law_is_row M⟩
  let Dlaw_is_frac : Df P w K mg base 2 "_law_is_frac" ["thing"] _ := ⟨f_law_is_frac, fd_law_is_frac, g_law_is_frac, F_law_is_frac.kp, (F_law_is_frac.binds (ps := ["thing"]) fun _ _ _ _ _ _ us hl => match us, hl with | [_], _ => rfl), ok_lisfrac (n := 300) (by decide) F_law_is_frac M Dlaw_is_row Dlaw_is_int Dlaw_low⟩
  let Dlaw_is_fracs : Df P w K mg base 3 "_law_is_fracs" ["thing", "size"] _ := ⟨f_law_is_fracs, fd_law_is_fracs, g_law_is_fracs, F_law_is_fracs.kp, (F_law_is_fracs.binds (ps := ["thing", "size"]) fun _ _ _ _ _ _ us hl => match us, hl with | [_, _], _ => rfl), ok_lfracs F_law_is_fracs M Dlaw_is_row Dlaw_is_frac⟩
  let Dlaw_is_square : Df P w K mg base 4 "_law_is_square" ["thing"] _ := ⟨f_law_is_square, fd_law_is_square, g_law_is_square, F_law_is_square.kp, (F_law_is_square.binds (ps := ["thing"]) fun _ _ _ _ _ _ us hl => match us, hl with | [_], _ => rfl), ok_lsquare F_law_is_square M Dlaw_is_fracs⟩
  let Dlaw_reached : Df P w K mg base 1 "_law_reached" ["square", "here"] _ := ⟨f_law_reached, fd_law_reached, g_law_reached, F_law_reached.kp, (F_law_reached.binds (ps := ["square", "here"]) fun _ _ _ _ _ _ us hl => match us, hl with | [_, _], _ => rfl), ok_lreached F_law_reached M⟩
  let Dlaw_is_whole : Df P w K mg base 5 "_law_is_whole" ["thing"] _ := ⟨f_law_is_whole, fd_law_is_whole, g_law_is_whole, F_law_is_whole.kp, (F_law_is_whole.binds (ps := ["thing"]) fun _ _ _ _ _ _ us hl => match us, hl with | [_], _ => rfl), ok_lwhole F_law_is_whole M Dlaw_is_square Dlaw_reached⟩
  let Dlaw_is_walk : Df P w K mg base 6 "_law_is_walk" ["thing"] _ := ⟨f_law_is_walk, fd_law_is_walk, g_law_is_walk, F_law_is_walk.kp, (F_law_is_walk.binds (ps := ["thing"]) fun _ _ _ _ _ _ us hl => match us, hl with | [_], _ => rfl), ok_lwalkQ F_law_is_walk M Dlaw_is_whole DtotT⟩
  let Dlaw_is_glasses : Df P w K mg base 2 "_law_is_glasses" ["thing", "size"] _ := ⟨f_law_is_glasses, fd_law_is_glasses, g_law_is_glasses, F_law_is_glasses.kp, (F_law_is_glasses.binds (ps := ["thing", "size"]) fun _ _ _ _ _ _ us hl => match us, hl with | [_, _], _ => rfl), ok_lglasses F_law_is_glasses M Dlaw_is_row Dlaw_is_int⟩
  let Dlaw_is_view : Df P w K mg base 7 "_law_is_view" ["thing"] _ := ⟨f_law_is_view, fd_law_is_view, g_law_is_view, F_law_is_view.kp, (F_law_is_view.binds (ps := ["thing"]) fun _ _ _ _ _ _ us hl => match us, hl with | [_], _ => rfl), ok_lisview F_law_is_view M Dlaw_is_row Dlaw_is_walk Dlaw_is_glasses⟩
  let Dlaw_merged : Df P w K mg base 4 "_law_merged" ["well", "marks"] _ := ⟨f_law_merged, fd_law_merged, g_law_merged, F_law_merged.kp, (F_law_merged.binds (ps := ["well", "marks"]) fun _ _ _ _ _ _ us hl => match us, hl with | [_, _], _ => rfl), ok_lmerged F_law_merged M Dlaw_draw Dlaw_marks⟩
  let Dlaw_through : Df P w K mg base 1 "_law_through" ["new", "marks"] _ := ⟨f_law_through, fd_law_through, g_law_through, F_law_through.kp, (F_law_through.binds (ps := ["new", "marks"]) fun _ _ _ _ _ _ us hl => match us, hl with | [_, _], _ => rfl), ok_lthrough F_law_through M⟩
  let Dlaw_is_judged : Dg P w K mg base 8 "_law_is_judged" ["size", "thing"] _ := ⟨f_law_is_judged, fd_law_is_judged, g_law_is_judged, F_law_is_judged.kp, (F_law_is_judged.binds (ps := ["size", "thing"]) fun _ _ _ _ _ _ us hl => match us, hl with | [_, _], _ => rfl), ok_ljudged F_law_is_judged M Dis_glasses Dis_sighted Dlaw_is_glasses Dlaw_is_view⟩
  let Dlaw_right : Dg P w K mg base 12 "_law_right" ["well"] _ := ⟨f_law_right, fd_law_right, g_law_right, F_law_right.kp, (F_law_right.binds (ps := ["well"]) fun _ _ _ _ _ _ us hl => match us, hl with | [_], _ => rfl), ok_right F_law_right M Dlaw_pick Dlaw_view Dlaw_merged Dlaw_through Dlaw_bent Dlaw_odd Dlaw_is_judged Dput_together Dis_sighted Dis_glasses Nput_together_10 Nis_sighted_0 Nis_glasses_10⟩
  exact ok_law Flaw M Dlaw_well Dlaw_right
end
end Kx
open PySem PySem.W PyProof.Rows
set_option maxRecDepth 100000 in
set_option maxHeartbeats 0 in
theorem PySem.Challenge.cw_backwalks_k35_glasses_and_sighted_walks_holds : PySem.Challenge.rw_backwalks_k35_glasses_and_sighted_walks.Holds := by
  w_on; o_law; k_head; (case hw => w_witness2)
  k_fill
  refine Bw.walk_G (l := PySem.Challenge.rw_backwalks_k35_glasses_and_sighted_walks) (n := 63) (k := 13) (x := "script") (sp := Kx.spLaw) rfl (by decide) rfl ⟨rfl, by decide, by decide⟩ (fun w h Y => PySem.W.kIn_of Y) ?F (fun K H a ns hl _ hS => ⟨a, ns, rfl, hS, hl, fun _ => rfl⟩)
  case F =>
    intro w mg fa h KX G hmg
    refine' Kx.all_mk KX G hmg ?dis_whole ?dis_fraction ?dis_from_nil ?dlowest ?dplus ?dtotal ?dis_table_row ?dis_table ?dleads_to_all ?dis_whole_table ?dis_walk ?dare_marks ?dis_glasses ?dis_sighted ?dcheck_sighted ?dkeeps_together ?dput_together ?d_law_well ?d_law_draw ?d_law_pick ?d_law_low ?d_law_add ?d_law_div ?d_law_total ?d_law_over ?d_law_order ?d_law_heft ?d_law_marks ?d_law_wheel ?d_law_walk_of ?d_law_bars ?d_law_any_walk ?d_law_going ?d_law_view ?d_law_odd ?d_law_bent ?d_law_is_int ?d_law_is_row ?d_law_is_frac ?d_law_is_fracs ?d_law_is_square ?d_law_reached ?d_law_is_whole ?d_law_is_walk ?d_law_is_glasses ?d_law_is_view ?d_law_merged ?d_law_through ?d_law_is_judged ?d_law_right ?dlaw ?zint ?zlen ?zabs ?zdivmod ?zrange ?zenumerate ?zisinstance ?zrepr ?ztuple ?zlist ?zall ?zzip ?zstr ?zbool ?zset ?zmin ?zmax ?zsorted ?zsum ?pn ?po ?pg ?pm
    (case dis_whole => exact ⟨_, _, _, _, _, _, _, _, _, _, by k_is, by k_is, by k_is, by k_is⟩)
    (case dis_fraction => exact ⟨_, _, _, _, _, _, _, _, _, _, by k_is, by k_is, by k_is, by k_is⟩)
    (case dis_from_nil => exact ⟨_, _, _, _, _, _, _, _, _, _, by k_is, by k_is, by k_is, by k_is⟩)
    (case dlowest => exact ⟨_, _, _, _, _, _, _, _, _, _, by k_is, by k_is, by k_is, by k_is⟩)
    (case dplus => exact ⟨_, _, _, _, _, _, _, _, _, _, by k_is, by k_is, by k_is, by k_is⟩)
    (case dtotal => exact ⟨_, _, _, _, _, _, _, _, _, _, by k_is, by k_is, by k_is, by k_is⟩)
    (case dis_table_row => exact ⟨_, _, _, _, _, _, _, _, _, _, by k_is, by k_is, by k_is, by k_is⟩)
    (case dis_table => exact ⟨_, _, _, _, _, _, _, _, _, _, by k_is, by k_is, by k_is, by k_is⟩)
    (case dleads_to_all => exact ⟨_, _, _, _, _, _, _, _, _, _, by k_is, by k_is, by k_is, by k_is⟩)
    (case dis_whole_table => exact ⟨_, _, _, _, _, _, _, _, _, _, by k_is, by k_is, by k_is, by k_is⟩)
    (case dis_walk => exact ⟨_, _, _, _, _, _, _, _, _, _, by k_is, by k_is, by k_is, by k_is⟩)
    (case dare_marks => exact ⟨_, _, _, _, _, _, _, _, _, _, by k_is, by k_is, by k_is, by k_is⟩)
    (case dis_glasses => exact ⟨_, _, _, _, _, _, _, _, _, _, by k_is, by k_is, by k_is, by k_is⟩)
    (case dis_sighted => exact ⟨_, _, _, _, _, _, _, _, _, _, by k_is, by k_is, by k_is, by k_is⟩)
    (case dcheck_sighted => exact ⟨_, _, _, _, _, _, _, _, _, _, by k_is, by k_is, by k_is, by k_is⟩)
    (case dkeeps_together => exact ⟨_, _, _, _, _, _, _, _, _, _, by k_is, by k_is, by k_is, by k_is⟩)
    (case dput_together => exact ⟨_, _, _, _, _, _, _, _, _, _, by k_is, by k_is, by k_is, by k_is⟩)
    (case d_law_well => exact ⟨_, _, _, _, _, _, _, _, _, _, by k_is, by k_is, by k_is, by k_is⟩)
    (case d_law_draw => exact ⟨_, _, _, _, _, _, _, _, _, _, by k_is, by k_is, by k_is, by k_is⟩)
    (case d_law_pick => exact ⟨_, _, _, _, _, _, _, _, _, _, by k_is, by k_is, by k_is, by k_is⟩)
    (case d_law_low => exact ⟨_, _, _, _, _, _, _, _, _, _, by k_is, by k_is, by k_is, by k_is⟩)
    (case d_law_add => exact ⟨_, _, _, _, _, _, _, _, _, _, by k_is, by k_is, by k_is, by k_is⟩)
    (case d_law_div => exact ⟨_, _, _, _, _, _, _, _, _, _, by k_is, by k_is, by k_is, by k_is⟩)
    (case d_law_total => exact ⟨_, _, _, _, _, _, _, _, _, _, by k_is, by k_is, by k_is, by k_is⟩)
    (case d_law_over => exact ⟨_, _, _, _, _, _, _, _, _, _, by k_is, by k_is, by k_is, by k_is⟩)
    (case d_law_order => exact ⟨_, _, _, _, _, _, _, _, _, _, by k_is, by k_is, by k_is, by k_is⟩)
    (case d_law_heft => exact ⟨_, _, _, _, _, _, _, _, _, _, by k_is, by k_is, by k_is, by k_is⟩)
    (case d_law_marks => exact ⟨_, _, _, _, _, _, _, _, _, _, by k_is, by k_is, by k_is, by k_is⟩)
    (case d_law_wheel => exact ⟨_, _, _, _, _, _, _, _, _, _, by k_is, by k_is, by k_is, by k_is⟩)
    (case d_law_walk_of => exact ⟨_, _, _, _, _, _, _, _, _, _, by k_is, by k_is, by k_is, by k_is⟩)
    (case d_law_bars => exact ⟨_, _, _, _, _, _, _, _, _, _, by k_is, by k_is, by k_is, by k_is⟩)
    (case d_law_any_walk => exact ⟨_, _, _, _, _, _, _, _, _, _, by k_is, by k_is, by k_is, by k_is⟩)
    (case d_law_going => exact ⟨_, _, _, _, _, _, _, _, _, _, by k_is, by k_is, by k_is, by k_is⟩)
    (case d_law_view => exact ⟨_, _, _, _, _, _, _, _, _, _, by k_is, by k_is, by k_is, by k_is⟩)
    (case d_law_odd => exact ⟨_, _, _, _, _, _, _, _, _, _, by k_is, by k_is, by k_is, by k_is⟩)
    (case d_law_bent => exact ⟨_, _, _, _, _, _, _, _, _, _, by k_is, by k_is, by k_is, by k_is⟩)
    (case d_law_is_int => exact ⟨_, _, _, _, _, _, _, _, _, _, by k_is, by k_is, by k_is, by k_is⟩)
    (case d_law_is_row => exact ⟨_, _, _, _, _, _, _, _, _, _, by k_is, by k_is, by k_is, by k_is⟩)
    (case d_law_is_frac => exact ⟨_, _, _, _, _, _, _, _, _, _, by k_is, by k_is, by k_is, by k_is⟩)
    (case d_law_is_fracs => exact ⟨_, _, _, _, _, _, _, _, _, _, by k_is, by k_is, by k_is, by k_is⟩)
    (case d_law_is_square => exact ⟨_, _, _, _, _, _, _, _, _, _, by k_is, by k_is, by k_is, by k_is⟩)
    (case d_law_reached => exact ⟨_, _, _, _, _, _, _, _, _, _, by k_is, by k_is, by k_is, by k_is⟩)
    (case d_law_is_whole => exact ⟨_, _, _, _, _, _, _, _, _, _, by k_is, by k_is, by k_is, by k_is⟩)
    (case d_law_is_walk => exact ⟨_, _, _, _, _, _, _, _, _, _, by k_is, by k_is, by k_is, by k_is⟩)
    (case d_law_is_glasses => exact ⟨_, _, _, _, _, _, _, _, _, _, by k_is, by k_is, by k_is, by k_is⟩)
    (case d_law_is_view => exact ⟨_, _, _, _, _, _, _, _, _, _, by k_is, by k_is, by k_is, by k_is⟩)
    (case d_law_merged => exact ⟨_, _, _, _, _, _, _, _, _, _, by k_is, by k_is, by k_is, by k_is⟩)
    (case d_law_through => exact ⟨_, _, _, _, _, _, _, _, _, _, by k_is, by k_is, by k_is, by k_is⟩)
    (case d_law_is_judged => exact ⟨_, _, _, _, _, _, _, _, _, _, by k_is, by k_is, by k_is, by k_is⟩)
    (case d_law_right => exact ⟨_, _, _, _, _, _, _, _, _, _, by k_is, by k_is, by k_is, by k_is⟩)
    (case dlaw => exact ⟨_, _, _, _, _, _, _, _, _, _, by k_is, by k_is, by k_is, by k_is⟩)
    (case zint => k_is)
    (case zlen => k_is)
    (case zabs => k_is)
    (case zdivmod => k_is)
    (case zrange => k_is)
    (case zenumerate => k_is)
    (case zisinstance => k_is)
    (case zrepr => k_is)
    (case ztuple => k_is)
    (case zlist => k_is)
    (case zall => k_is)
    (case zzip => k_is)
    (case zstr => k_is)
    (case zbool => k_is)
    (case zset => k_is)
    (case zmin => k_is)
    (case zmax => k_is)
    (case zsorted => k_is)
    (case zsum => k_is)
    (case pn => exact ⟨_, _, _, _, _, _, by k_is, by k_is⟩)
    (case po => exact ⟨_, _, _, _, _, _, by k_is, by k_is⟩)
    (case pg => k_is)
    (case pm => exact ⟨_, by k_is⟩)
