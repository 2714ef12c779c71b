import PyProof.Rows.All
import Wide.All
import OpenK.AllK
import Wide.FinOn
import HandS.ForMost
import HandS.Evl
import HandS.Style
import HandS.IsInst
import HandS.StrMore
import HandS.Flow
import HandS.Wide
import HandS.Zip
import PyProof.ReprRoads
import KE.KIntText
import PySem.Challenge.RW_lastprices_k01_whole_integers_by_their_f
set_option Elab.async false
set_option linter.all false
set_option maxRecDepth 100000
set_option maxHeartbeats 4000000
/-! Lp, part one: a promise that is kept where no repr is under way (A.guards = some []), and the law's end over such promises. -/
namespace Lp
open PySem PySem.Spec PyProof.Rows L2
/-- a def's promise, asked only where no repr is under way -/
structure FnG (P : Program) (w : World) (K : PySem.W.Frag) (mg : Str → Option Value) (base : Heap) (CX : CXT) (k : Nat) (f : Addr) (fd : FuncData) (ps : List Str) (sp : Sp) : Prop where
  len : ∀ vs H Q E, sp vs H Q E → vs.length = ps.length
  go : ∀ (B : Around) (fr : List Env) (st : Shared) (J : Hp) (ar : Args) (ws : List Value) (xs : List V) (R : VK) (Z : XK),
    Room k B → B.guards = some [] → Env0 P w K mg base B fr st J → BindsTo st fd ar (ps.zip ws) → Vals xs ws → sp xs J R Z →
    codeAny (model P w) B (.call (.ref f) ar) (CR CX fr P w J st R Z) st
section
variable {P : Program} {w : World} {K : PySem.W.Frag} {mg : Str → Option Value} {base : Heap} {CX : CXT}
theorem FnG.mono {j k : Nat} {f : Addr} {fd : FuncData} {ps : List Str} {sp : Sp} (F : FnG P w K mg base CX j f fd ps sp) (h : j ≤ k) : FnG P w K mg base CX k f fd ps sp :=
  ⟨F.len, fun B fr st J ar ws xs R Z r => F.go B fr st J ar ws xs R Z (r.mono h)⟩
theorem FnG.of {k : Nat} {f : Addr} {fd : FuncData} {ps : List Str} {sp : Sp} (F : FnOk P w K mg base CX k f fd ps sp) : FnG P w K mg base CX k f fd ps sp :=
  ⟨F.len, fun B fr st J ar ws xs R Z r _ => F.run B fr st J ar ws xs R Z r⟩
/-- the rule for a def, its body walked where no repr is under way -/
theorem okG {x qual : Str} {st : Stmt} {f : Addr} {fd : FuncData} {N ps : List Str} {k : Nat} {sp : Sp} (F : Fun K x qual st f fd) (S : FnScope N ps (defScope st)) (len : ∀ vs H Q E, sp vs H Q E → vs.length = ps.length)
    (body : ∀ (cdv : Value) (B : Around) (fr : List Env) (s : Shared) (J : Hp) (xs : List V) (R : VK) (Z : XK),
      Room k (B.deeper (envOfC qual (defScope st) s.heap.objs.size f cdv)) → (B.deeper (envOfC qual (defScope st) s.heap.objs.size f cdv)).guards = some [] → sp xs J R Z →
      ∃ t, PSs (cxOf CX P w K mg base N qual (defScope st) f cdv B fr s J Z) (defBody st) t ∧ t { nx := fun _ H' => R .non H', rt := R } (start N xs) J) :
    FnG P w K mg base CX (k + 1) f fd ps sp := by
  obtain ⟨oc, od, kV, doc, pm, an, cdv, ct, osl, rfl, lk, hcd⟩ := F.ex
  refine ⟨len, fun B fr s J ar ws xs R Z hr hg e0 hb r hsp => ?_⟩
  have hl := len _ _ _ _ hsp
  have inH : ∀ b o, base.get? b = some o → s.heap.get? b = some o := fun b o e => (e0.bs b o e).1
  have KX : K.In s.heap := e0.mod.kin.keeps inH
  have par : ∀ y ∈ ps.zip ws, (defScope st).names.lookup y.1 = some .local ∨ ((defScope st).names.lookup y.1 = some .cell ∧ ((cellsFrom (s.heap.objs.size + 1) (defScope st).names []).lookup y.1).isSome = true) := fun y hy =>
    (S.par y.1 (List.of_mem_zip (show (y.1, y.2) ∈ ps.zip ws from hy)).1).elim .inl fun q => .inr ⟨q, PySem.W.cellsFrom_some _ _ _ (.inl q)⟩
  refine codeAny_call_function hr.depth (KX _ _ lk) rfl S.co S.gen rfl (PySem.W.codeRec_of KX hcd) (hb _ _ _ _ ?_)
  refine wpAny_newFunctionEnv_cells S.kind par fun en hen s1 c1 => ?_
  subst hen
  refine ⟨(e0.mod.nolimit.keeps inH).keeps c1.toInCall.keep, codeAny_func ?_⟩
  obtain ⟨t, ht, hq⟩ := body cdv B fr s J xs R Z (hr.deeper _) hg hsp
  have I := inv_start (CX := CX) (cd := cdv) (qual := qual) (f := f) (E := Z) S hr.hd e0 hl r c1
  refine wpAny_mono (ht.run [] s1 (start N xs) J _ I hq) (fun fl s2 hs => ?_) fun _ _ z => z
  match fl, hs with
  | .ret u, ⟨v, _, H2, I2, rv, q⟩ => exact ⟨v, H2, I2.os, I2.bare, I2.base, I2.hok, rv, q⟩
  | .next, ⟨_, H2, I2, q⟩ => exact ⟨V.non, H2, I2.os, I2.bare, I2.base, I2.hok, rfl, q⟩
  | .brk, ⟨_, _, _, q⟩ => exact q.elim
  | .cont, ⟨_, _, _, q⟩ => exact q.elim
/-- the same for a def that lets no exception out -/
theorem okN {x qual : Str} {st : Stmt} {f : Addr} {fd : FuncData} {N ps : List Str} {k : Nat} {sp : Sp} (F : Fun K x qual st f fd) (S : FnScope N ps (defScope st)) (len : ∀ vs H Q E, sp vs H Q E → vs.length = ps.length)
    (body : ∀ (cdv : Value) (B : Around) (fr : List Env) (s : Shared) (J : Hp) (xs : List V) (R : VK) (Z : XK),
      Room k (B.deeper (envOfC qual (defScope st) s.heap.objs.size f cdv)) → (B.deeper (envOfC qual (defScope st) s.heap.objs.size f cdv)).guards = some [] → sp xs J R Z →
      ∃ t, PSs (cxOf CX P w K mg base N qual (defScope st) f cdv B fr s J Z).nox (defBody st) t ∧ t { nx := fun _ H' => R .non H', rt := R } (start N xs) J) :
    FnG P w K mg base CX (k + 1) f fd ps sp :=
  okG F S len fun cdv B fr s J xs R Z h1 h2 h3 => by
    obtain ⟨t, a, b⟩ := body cdv B fr s J xs R Z h1 h2 h3
    exact ⟨t, a.nox, b⟩
/-- a call of such a def by its global name -/
theorem callG {X : Cx} {k : Nat} {f : Addr} {fd : FuncData} {ps : List Str} {sp : Sp} {x : Str} {p pos : Pos} {e : Expr} {es : List Expr} {t : TA} {Z : XK} (F : FnG X.prog X.w X.K X.mg X.base CX k f fd ps sp) (hr : Room k X.A) (hgd : X.A.guards = some [])
    (hg : Gl X x) (hm : X.mg x = some (.ref f)) (hk : PySem.W.keepIn X.K (.ref f) = true) (hb : Binds X.K fd ps []) (hx : Passes CX X Z)
    (ha : PA X (e :: es) t) (hdb : (x == ("__debug__" : Str)) = false := by decide) (he : starEach (e :: es) X.env = (false, eval e X.env) :: starEach es X.env := by rfl) (hpl : (backTo pos (starEach es X.env)).any (·.1) = false := by rfl) :
    PE X (.Call (.Name x p) (e :: es) [] pos) (tCall sp [] Z t) := by
  constructor
  intro pins s σ J R I h
  apply wpAny_Call_Name_kw
  refine ld_glob I hg hm ?_ hdb
  refine PySem.W.callWith_K (h₀ := X.base) I.ok.mod.kin hk (thn (ha.run pos pins s σ J _ I h) fun ws s1 z => ?_) he hpl
  obtain ⟨xs, J1, I1, r, q⟩ := z
  refine ⟨I1.kIn, ?_⟩
  have q' : sp xs J1 R Z := by
    have q2 : sp (xs ++ []) J1 R Z := q
    rwa [List.append_nil] at q2
  have bt := hb s1 ws I1.kIn (by rw [List.append_nil, ← r.length]; exact F.len _ _ _ _ q')
  rw [List.append_nil] at bt
  refine wpAny_call (codeAny_mono (F.go X.A X.stack s1 J1 ⟨ws, []⟩ ws xs R Z hr hgd I1.env0 bt r q') fun o s2 w2 => ?_)
  match o, w2 with
  | .error e, w2 => exact hx pins σ J1 s1 e s2 I1 w2
  | .ok (.ret u), w2 => exact I1.after w2
/-- the law's own call -/
theorem law_callG {mb : Str → Option Value} {k : Nat} {fa a : Addr} {fd : FuncData} {x : Str} {sp : Sp} {st : Shared} {vs : List Value} {ns : List Int}
    (KX : K.In st.heap) (hns : st.heap.Ns mainGlobals mg) (hb : st.heap.Ns builtinsNs mb) (hbb : ∀ y : Str, y ≠ "__name__" → mb y = bootBuiltins y) (hlim : st.heap.NoLimit) (hgen : st.gens = #[])
    (ha : st.heap.get? a = some { cls := .type "list", data := .seq vs.toArray }) (hi : IntsAre vs ns) (hl : ns.length ≤ sizeLine) (hr : Room k callerA)
    (F : ∀ b0 : Heap, K.In b0 → b0.Ns mainGlobals mg → FnG P w K mg b0 CX k fa fd [x] sp) (hbind : ∀ (s : Shared) (u : Value), BindsTo s fd ⟨[u], []⟩ [(x, u)])
    (hsp : ∀ J : Hp, Only J → SqL K J a (ns.map V.int) → sp [.ref a] J (fun v _ => v = .bl true) fun _ _ _ => False)
    (hCX : ∀ J e s', CX [] J st (fun _ _ _ => False) e s' → False) :
    codeAny (model P w) callerA (.call (.ref fa) ⟨[.ref a], []⟩) (fun r s' => r = .ok (.ret (.bool true)) ∧ OldK st.heap s'.heap ∧ s'.os = st.os ∧ AllBare s'.gens) st := by
  have rv := vals_ints hi
  have lv := hi.length
  -- J tracks the script at most
  have main : ∀ J : Hp, Only J → SqL K J a (ns.map V.int) → HOk P w J st.heap → (∀ b, J b ≠ none → b = a) → (J a ≠ none → K.lookup a = none) →
      codeAny (model P w) callerA (.call (.ref fa) ⟨[.ref a], []⟩) (fun r s' => r = .ok (.ret (.bool true)) ∧ OldK st.heap s'.heap ∧ s'.os = st.os ∧ AllBare s'.gens) st := by
    intro J hO hS hok hA hK
    have seen : ∀ b, J b = none ∨ b = a := fun b => by
      cases q : J b with
      | none => exact .inl rfl
      | some u => exact .inr (hA b (by rw [q]; exact Option.some_ne_none u))
    have dn : ∀ {b : Addr} {o : Obj} {es : Array DictEntry} {ep : Nat}, st.heap.get? b = some o → o.data = .dict es ep → J b = none := fun {b o es ep} e d => (seen b).elim id fun z => by
      subst z
      rw [ha] at e
      cases e
      exact nomatch (show Data.seq vs.toArray _ = Data.dict es ep from d)
    have nsT : ∀ {b : Addr} {m : Str → Option Value}, st.heap.Ns b m → (hidT st.heap J).Ns b m := fun ⟨o, es, ep, e, d, r⟩ => ⟨o, es, ep, hidT_get e (dn e d), d, r⟩
    have kT : K.In (hidT st.heap J) := fun b o e => hidT_get (KX b o e) ((seen b).elim id fun z => by
      subst z
      cases q : J b with
      | none => rfl
      | some u =>
        have := hK (by rw [q]; exact Option.some_ne_none u)
        rw [e] at this
        cases this)
    obtain ⟨mc, l1, l2⟩ := hlim
    have env : Env0 P w K mg (hidT st.heap J) callerA [] st J :=
      ⟨rfl, ⟨kT, nsT hns, ⟨mb, nsT hb, hbb⟩, ⟨mc, nsT l1, l2⟩⟩, fun b o e => of_hidT e, Nat.le_of_eq (hidT_size _ _), trivial, fun b z => (List.not_mem_nil z).elim, hok, .of_eq hgen⟩
    refine codeAny_mono ((F _ kT (nsT hns)).go callerA [] st J ⟨[.ref a], []⟩ [.ref a] [.ref a] _ _ hr rfl env (hbind st (.ref a)) (.cons rfl .nil) (hsp J hO hS)) fun r s' h => ?_
    match r, h with
    | .error e, h => exact (hCX J e s' h).elim
    | .ok (.ret u), ⟨v, J2, os, bare, un, hok2, r2, q⟩ =>
      have q2 : v = .bl true := q
      subst q2
      have r3 : u = Value.bool true := r2
      subst r3
      refine ⟨rfl, OldK.of_keep fun b o e => ?_, os, bare⟩
      rcases hO b with z | ⟨ob, xs, z⟩
      · exact un.keep b o e z (fun y => (List.not_mem_nil y).elim) (fun y => (List.not_mem_nil y).elim)
      · have f1 := (hok b _ z).1
        have f2 := (hok2 b _ (un.frzs b ob _ z)).1
        rw [e] at f1
        cases f1
        exact f2
  cases hk : K.lookup a with
  | some o =>
    have e := KX a o hk
    rw [ha] at e
    cases e
    refine main (fun _ => none) (fun _ => .inl rfl) (.inr ⟨_, vs.toArray, _, hk, rfl, rfl, rfl, by rw [List.size_toArray, lv]; exact hl, by simpa using rv⟩) (fun b u z => ?_) (fun b z => (z rfl).elim) (fun z => (z rfl).elim)
    cases (show (none : Option HO) = some u from z)
  | none =>
    have on : ∀ {b : Addr} {u : HO}, (if b = a then some (HO.frz { cls := .type "list", data := .seq vs.toArray } (.lst (ns.map V.int))) else none) = some u → b = a ∧ u = HO.frz { cls := .type "list", data := .seq vs.toArray } (.lst (ns.map V.int)) := fun {b u} z => by
      by_cases hb : b = a
      · rw [if_pos hb] at z
        exact ⟨hb, (Option.some.inj z).symm⟩
      · rw [if_neg hb] at z
        cases z
    refine main (fun b => if b = a then some (.frz { cls := .type "list", data := .seq vs.toArray } (.lst (ns.map V.int))) else none) (fun b => ?_) (.inl (.inr ⟨_, if_pos rfl⟩)) (fun b u z => ?_) (fun b z => ?_) fun _ => hk
    · by_cases hb : b = a
      · exact .inr ⟨_, _, if_pos hb⟩
      · exact .inl (if_neg hb)
    · obtain ⟨rfl, rfl⟩ := on z
      exact ⟨ha, by rw [List.length_map]; exact hl, vs, _, rv, ha⟩
    · by_cases hb : b = a
      · exact hb
      · exact (z (if_neg hb)).elim
end
/-- the goal that the head leaves, from the law's promise -/
theorem walkG {l : PySem.W.OpenLaw} {n k : Nat} {q : Program} {loose : List Str} {XP : (Str → Option Value) → Heap → Prop} {YP : World → Heap → Prop} {d : DefRec} {K : Params → PySem.W.Frag} {CX : World → CXT} {sp : World → Sp} {x : Str}
    (hn : l.most = some n) (hn2 : n ≤ sizeLine) (hdf : d.params.defaults = []) (hr : Room k callerA) (hY : ∀ (w : World) (h : Heap), YP w h → (K w.params).In h)
    (F : ∀ (w : World) (mg : Str → Option Value) (fa : Addr) (h : Heap), (K w.params).In h → h.Ns mainGlobals mg → mg d.name = some (.ref fa) →
      ∃ fd : FuncData, (∀ (s : Shared) (u : Value), BindsTo s fd ⟨[u], []⟩ [(x, u)]) ∧ ∀ b0 : Heap, (K w.params).In b0 → b0.Ns mainGlobals mg → FnG l.prog w (K w.params) mg b0 (CX w) k fa fd [x] (sp w))
    (hsp : ∀ (w : World) (J : Hp) (a : Addr) (ns : List Int), ns.length ≤ n → Only J → SqL (K w.params) J a (ns.map V.int) → sp w [.ref a] J (fun v _ => v = .bl true) fun _ _ _ => False)
    (hCX : ∀ (w : World) (J : Hp) (s : Shared) (e : Value) (s' : Shared), CX w [] J s (fun _ _ _ => False) e s' → False) :
    PySem.W.WalkO q loose XP YP l.row.toRowW d [] (fun f vs => PySem.call f vs) :=
  Att.attach_call hn hdf fun w s0 s1 mg mb fa o pm cd doc a vs ns G Y ho hd hcd hmg hobj hints hlen hgen => by
    have KX := hY w _ Y
    obtain ⟨fd, hb, hF⟩ := F w mg fa _ KX G.T.g hmg
    exact law_callG KX G.T.g G.T.b G.T.builtins G.T.nolimit hgen hobj hints (Nat.le_trans hlen hn2) hr hF hb (fun J hO hS => hsp w J a ns hlen hO hS) fun J e s' => hCX w J s1 e s'
end Lp
set_option Elab.async false
set_option linter.all false
set_option maxRecDepth 100000
set_option maxHeartbeats 4000000
/-! Lp, part two: what an expression gives, as plain data; the list of dice may change, all else stays. -/
namespace Lp
open PySem PySem.Spec L2
/-! ### the heap without the dice and without what is being filled -/
structure Mt where
  d : Option Addr
  o : List Addr
abbrev OA := Mt
abbrev no : Mt := ⟨none, []⟩
abbrev Mt.add (p : Mt) (q : Addr) : Mt := ⟨p.d, q :: p.o⟩
def Hid (p : Mt) (b : Addr) : Prop := p.d = some b ∨ b ∈ p.o
instance {p : Mt} {b : Addr} : Decidable (Hid p b) := inferInstanceAs (Decidable (p.d = some b ∨ b ∈ p.o))
def del (p : Mt) (H : Hp) : Hp := fun b => if Hid p b then none else H b
theorem del_of {p : Mt} {H : Hp} {b : Addr} {o : HO} (h : del p H b = some o) : H b = some o := by
  unfold del at h
  split at h
  · cases h
  · exact h
theorem del_no {p : Mt} {H : Hp} {b : Addr} {o : HO} (h : del p H b = some o) : ¬ Hid p b := fun z => by
  unfold del at h
  rw [if_pos z] at h
  cases h
theorem del_at {p : Mt} {H : Hp} {b : Addr} (h : ¬ Hid p b) : del p H b = H b := if_neg h
theorem del_none {H : Hp} : del no H = H := by
  funext b
  exact if_neg (fun e => e.elim (fun z => nomatch z) (fun z => nomatch z))
/-- what is not there need not be hidden -/
theorem del_add {p : Mt} {H : Hp} {q : Addr} (h : H q = none) : del (p.add q) H = del p H := by
  funext b
  unfold del
  by_cases e : b = q
  · subst e
    rw [if_pos (show Hid (p.add b) b from Or.inr List.mem_cons_self), h]
    split <;> rfl
  · by_cases f : Hid p b
    · rw [if_pos f, if_pos (show Hid (p.add q) b from f.imp id (List.mem_cons_of_mem _))]
    · rw [if_neg f, if_neg (show ¬ Hid (p.add q) b from fun z => f (z.imp id fun y => (List.mem_cons.mp y).resolve_left e))]
def Dice (H : Hp) (a : Addr) : Prop := ∃ l s c : Int, H a = some (.lst [.int l, .int s, .int c])
structure DOk (p : Mt) (H : Hp) : Prop where
  di : ∀ a, p.d = some a → Dice H a
  lv : ∀ a ∈ p.o, H a ≠ none
theorem dok_none {H : Hp} : DOk no H := ⟨fun _ e => (nomatch e), fun _ e => (nomatch e)⟩
theorem DOk.ne {p : Mt} {H : Hp} {q : Addr} (d : DOk p H) (h : H q = none) : ¬ Hid p q := fun e => by
  rcases e with e | e
  · obtain ⟨l, s, c, z⟩ := d.di q e
    rw [h] at z
    cases z
  · exact d.lv q e h
structure Go (p : Mt) (H H' : Hp) : Prop where
  ex : ∀ a o, p.d ≠ some a → H a = some o → H' a = some o
  dk : DOk p H'
theorem Go.exd {p : Mt} {H H' : Hp} (g : Go p H H') : ∀ a o, del p H a = some o → del p H' a = some o := fun a o e => by
  have n := del_no e
  rw [del_at n] at e ⊢
  exact g.ex a o (fun z => n (.inl z)) e
theorem Go.refl {p : Mt} {H : Hp} (d : DOk p H) : Go p H H := ⟨fun _ _ _ h => h, d⟩
theorem Go.trans {p : Mt} {H H1 H2 : Hp} (a : Go p H H1) (b : Go p H1 H2) : Go p H H2 := ⟨fun x o n h => b.ex x o n (a.ex x o n h), b.dk⟩
theorem Go.free {p : Mt} {H H' : Hp} {q : Addr} (g : Go p H H') (h : H' q = none) : H q = none := by
  have n := g.dk.ne h
  cases e : H q with
  | none => rfl
  | some o =>
    have z := g.ex q o (fun y => n (.inl y)) e
    rw [h] at z
    cases z
/-- an object that H does not know is written -/
theorem Go.put {p : Mt} {H H' : Hp} {q : Addr} {o : HO} (d : DOk p H) (g : Go p H H') (h : H q = none) : Go p H (upd H' q o) := by
  have n := d.ne h
  refine ⟨fun a u na e => ?_, fun a e => ?_, fun a m => ?_⟩
  · rw [upd_ne (ne_of_none e h)]
    exact g.ex a u na e
  · obtain ⟨l, s, c, z⟩ := g.dk.di a e
    have na : a ≠ q := fun y => n (.inl (by rw [e, y]))
    exact ⟨l, s, c, by rw [upd_ne na]; exact z⟩
  · by_cases na : a = q
    · rw [na, upd_same]
      exact Option.some_ne_none o
    · rw [upd_ne na]
      exact g.dk.lv a m
theorem Go.new {p : Mt} {H : Hp} {q : Addr} {o : HO} (d : DOk p H) (h : H q = none) : Go p H (upd H q o) := Go.put d (.refl d) h
theorem del_upd {p : Mt} {H H' : Hp} {q : Addr} {o : HO} (d : DOk p H) (h : H q = none) : del p (upd H' q o) q = some o := by
  rw [del_at (d.ne h)]
  exact upd_same
theorem Go.same {p : Mt} {H H' : Hp} (d : DOk p H) (h : ∀ b o, H b = some o → H' b = some o) : Go p H H' := by
  refine ⟨fun a o _ e => h a o e, fun a e => ?_, fun a m z => ?_⟩
  · obtain ⟨l, s, c, z⟩ := d.di a e
    exact ⟨l, s, c, h a _ z⟩
  · cases e : H a with
    | none => exact d.lv a m e
    | some o =>
      rw [h a o e] at z
      cases z
/-- from a wider context to a narrower one, and back where q was not there -/
theorem Go.sub {p : Mt} {H H' : Hp} {q : Addr} (g : Go (p.add q) H H') : Go p H H' := ⟨g.ex, g.dk.di, fun a m => g.dk.lv a (List.mem_cons_of_mem _ m)⟩
theorem Go.sup {p : Mt} {H H' : Hp} {q : Addr} (g : Go p H H') (h : H' q ≠ none) : Go (p.add q) H H' := ⟨g.ex, g.dk.di, fun a m => (List.mem_cons.mp m).elim (fun e => e ▸ h) (g.dk.lv a)⟩
/-- a list, a tuple that does not change -/
theorem sl_del {K : PySem.W.Frag} {p : OA} {H : Hp} {a : Addr} {xs : List V} (h : SqL K (del p H) a xs) : SqL K H a xs := by
  rcases h with (h | ⟨o, h⟩) | h
  · exact .inl (.inl (del_of h))
  · exact .inl (.inr ⟨o, del_of h⟩)
  · exact .inr h
theorem tu_del {K : PySem.W.Frag} {p : OA} {H : Hp} {a : Addr} {xs : List V} (h : SqT K (del p H) a xs) : SqT K H a xs := by
  rcases h with (h | ⟨o, h⟩) | h
  · exact .inl (.inl (del_of h))
  · exact .inl (.inr ⟨o, del_of h⟩)
  · exact .inr h
theorem sl_ex {K : PySem.W.Frag} {H H' : Hp} {a : Addr} {xs : List V} (e : ∀ a o, H a = some o → H' a = some o) (h : SqL K H a xs) : SqL K H' a xs := by
  rcases h with (h | ⟨o, h⟩) | h
  · exact .inl (.inl (e _ _ h))
  · exact .inl (.inr ⟨o, e _ _ h⟩)
  · exact .inr h
theorem tu_ex {K : PySem.W.Frag} {H H' : Hp} {a : Addr} {xs : List V} (e : ∀ a o, H a = some o → H' a = some o) (h : SqT K H a xs) : SqT K H' a xs := by
  rcases h with (h | ⟨o, h⟩) | h
  · exact .inl (.inl (e _ _ h))
  · exact .inl (.inr ⟨o, e _ _ h⟩)
  · exact .inr h
theorem ls_q {K : PySem.W.Frag} {p : OA} {H : Hp} {a : Addr} {xs : List V} (h : del p H a = some (.lst xs)) : SqL K H a xs := .inl (.inl (del_of h))
/-! ### plain data -/
def kD : Key → PyData
  | .inl i => .int i
  | .inr x => .str x
mutual
inductive Rep (K : PySem.W.Frag) (H : Hp) : V → PyData → Prop
  | non : Rep K H .non .none
  | bl (b : Bool) : Rep K H (.bl b) (.bool b)
  | int (i : Int) : Rep K H (.int i) (.int i)
  | str (x : Str) : Rep K H (.str x) (.str x)
  | lst {a : Addr} {xs : List V} {ds : List PyData} : H a = some (.lst xs) → Reps K H xs ds → Rep K H (.ref a) (.list ds)
  | tup {a : Addr} {xs : List V} {ds : List PyData} : SqT K H a xs → Reps K H xs ds → Rep K H (.ref a) (.tuple ds)
  | dic {a : Addr} {kvs : List (Key × V)} {es : List (PyData × PyData)} : H a = some (.dK kvs) → RepKv K H kvs es → Rep K H (.ref a) (.dict es)
inductive Reps (K : PySem.W.Frag) (H : Hp) : List V → List PyData → Prop
  | nil : Reps K H [] []
  | cons {v : V} {vs : List V} {d : PyData} {ds : List PyData} : Rep K H v d → Reps K H vs ds → Reps K H (v :: vs) (d :: ds)
inductive RepKv (K : PySem.W.Frag) (H : Hp) : List (Key × V) → List (PyData × PyData) → Prop
  | nil : RepKv K H [] []
  | cons {k : Key} {v : V} {d : PyData} {kvs : List (Key × V)} {es : List (PyData × PyData)} : Rep K H v d → RepKv K H kvs es → RepKv K H ((k, v) :: kvs) ((kD k, d) :: es)
end
section
variable {K : PySem.W.Frag} {H H' : Hp}
mutual
theorem Rep.mono (e : ∀ a o, H a = some o → H' a = some o) : ∀ {v : V} {d : PyData}, Rep K H v d → Rep K H' v d
  | _, _, .non => .non
  | _, _, .bl b => .bl b
  | _, _, .int i => .int i
  | _, _, .str x => .str x
  | _, _, .lst h r => .lst (e _ _ h) (Reps.mono e r)
  | _, _, .tup h r => .tup (tu_ex e h) (Reps.mono e r)
  | _, _, .dic h r => .dic (e _ _ h) (RepKv.mono e r)
theorem Reps.mono (e : ∀ a o, H a = some o → H' a = some o) : ∀ {vs : List V} {ds : List PyData}, Reps K H vs ds → Reps K H' vs ds
  | _, _, .nil => .nil
  | _, _, .cons h r => .cons (Rep.mono e h) (Reps.mono e r)
theorem RepKv.mono (e : ∀ a o, H a = some o → H' a = some o) : ∀ {vs : List (Key × V)} {ds : List (PyData × PyData)}, RepKv K H vs ds → RepKv K H' vs ds
  | _, _, .nil => .nil
  | _, _, .cons h r => .cons (Rep.mono e h) (RepKv.mono e r)
end
theorem Rep.go {p : OA} {v : V} {d : PyData} (g : Go p H H') (h : Rep K (del p H) v d) : Rep K (del p H') v d := h.mono g.exd
theorem Reps.go {p : OA} {v : List V} {d : List PyData} (g : Go p H H') (h : Reps K (del p H) v d) : Reps K (del p H') v d := h.mono g.exd
theorem del_le {p : OA} {q : Addr} : ∀ a o, del (p.add q) H a = some o → del p H a = some o := fun a o e => by
  have n := del_no e
  rw [del_at n] at e
  rw [del_at (show ¬ Hid p a from fun z => n (Or.imp id (List.mem_cons_of_mem _) z))]
  exact e
theorem del_put {p : OA} {q : Addr} {o : HO} : ∀ a u, del (p.add q) H a = some u → del (p.add q) (upd H q o) a = some u := fun a u e => by
  have n := del_no e
  have na : a ≠ q := fun z => n (.inr (z ▸ List.mem_cons_self))
  rw [del_at n] at e ⊢
  rw [upd_ne na]
  exact e
theorem Rep.add {p : OA} {v : V} {d : PyData} {q : Addr} (h : Rep K (del p H) v d) (hq : H q = none) : Rep K (del (p.add q) H) v d := by rw [del_add hq]; exact h
theorem Reps.add {p : OA} {v : List V} {d : List PyData} {q : Addr} (h : Reps K (del p H) v d) (hq : H q = none) : Reps K (del (p.add q) H) v d := by rw [del_add hq]; exact h
theorem Rep.sub {p : OA} {v : V} {d : PyData} {q : Addr} (h : Rep K (del (p.add q) H) v d) : Rep K (del p H) v d := h.mono del_le
theorem Reps.sub {p : OA} {v : List V} {d : List PyData} {q : Addr} (h : Reps K (del (p.add q) H) v d) : Reps K (del p H) v d := h.mono del_le
theorem Reps.len {vs : List V} {ds : List PyData} (h : Reps K H vs ds) : vs.length = ds.length := by
  induction vs generalizing ds with
  | nil =>
    cases h
    rfl
  | cons v r ih =>
    cases h with
    | cons a b => exact congrArg (· + 1) (ih b)
theorem Reps.get {vs : List V} {ds : List PyData} (h : Reps K H vs ds) : ∀ {i : Nat} {v : V}, vs[i]? = some v → ∃ d, ds[i]? = some d ∧ Rep K H v d := by
  induction vs generalizing ds with
  | nil => exact fun e => by simp at e
  | cons u r ih =>
    cases h with
    | cons a b =>
      intro i v e
      cases i with
      | zero => exact ⟨_, rfl, by cases e; exact a⟩
      | succ j => exact ih b e
theorem Reps.app {vs us : List V} {ds es : List PyData} (h : Reps K H vs ds) (h2 : Reps K H us es) : Reps K H (vs ++ us) (ds ++ es) := by
  induction vs generalizing ds with
  | nil =>
    cases h
    exact h2
  | cons u r ih =>
    cases h with
    | cons a b => exact .cons a (ih b)
theorem reps_ints {vs : List V} {ns : List Int} (h : Reps K H vs (ns.map PyData.int)) : vs = ns.map V.int := by
  induction ns generalizing vs with
  | nil =>
    cases h
    rfl
  | cons n r ih =>
    cases h with
    | cons a b =>
      cases a
      rw [ih b]
      rfl
theorem ints_reps : ∀ ns : List Int, Reps K H (ns.map V.int) (ns.map PyData.int)
  | [] => .nil
  | n :: r => .cons (.int n) (ints_reps r)
theorem strs_reps : ∀ ns : List Str, Reps K H (ns.map V.str) (ns.map PyData.str)
  | [] => .nil
  | n :: r => .cons (.str n) (strs_reps r)
theorem reps_strs {vs : List V} {ns : List Str} (h : Reps K H vs (ns.map PyData.str)) : vs = ns.map V.str := by
  induction ns generalizing vs with
  | nil =>
    cases h
    rfl
  | cons n r ih =>
    cases h with
    | cons a b =>
      cases a
      rw [ih b]
      rfl
end
class Enc (α : Type) where
  toD : α → PyData
abbrev enc {α : Type} [Enc α] (a : α) : PyData := Enc.toD a
instance : Enc PyData := ⟨fun d => d⟩
instance : Enc Int := ⟨.int⟩
instance : Enc Bool := ⟨.bool⟩
instance : Enc Str := ⟨.str⟩
instance : Enc Unit := ⟨fun _ => .none⟩
instance {α : Type} [Enc α] : Enc (List α) := ⟨fun l => .list (l.map enc)⟩
/-! ### readings by the text itself -/
structure SemE (X : Cx) (e : Expr) (σ : St) (H : Hp) (Q : VK) : Prop where
  run : ∀ (pins : List (Addr × Obj)) (s : Shared), Inv X pins σ H s → wpAny (model X.prog X.w) X.A (eval e X.env) (EP X pins σ Q) X.xe s
structure SemT (X : Cx) (e : Expr) (σ : St) (H : Hp) (Q : Bool → Hp → Prop) : Prop where
  run : ∀ (pins : List (Addr × Obj)) (s : Shared), Inv X pins σ H s → wpAny (model X.prog X.w) X.A (isTrue e X.env (eval e X.env)) (TP X pins σ Q) X.xe s
structure SemA (X : Cx) (es : List Expr) (σ : St) (H : Hp) (Q : List V → Hp → Prop) : Prop where
  run : ∀ (pos : Pos) (pins : List (Addr × Obj)) (s : Shared), Inv X pins σ H s → wpAny (model X.prog X.w) X.A (spliced (backTo pos (starEach es X.env))) (AP X pins σ Q) X.xe s
structure SemS (X : Cx) (st : Stmt) (D : Ends) (σ : St) (H : Hp) : Prop where
  run : ∀ (pins : List (Addr × Obj)) (s : Shared), Inv X pins σ H s → wpAny (model X.prog X.w) X.A (exec st X.env) (SP X pins D) X.xe s
structure SemSs (X : Cx) (st : List Stmt) (D : Ends) (σ : St) (H : Hp) : Prop where
  run : ∀ (pins : List (Addr × Obj)) (s : Shared), Inv X pins σ H s → wpAny (model X.prog X.w) X.A (execs st X.env) (SP X pins D) X.xe s
section
variable {X : Cx}
theorem semE {e : Expr} : PE X e (SemE X e) := ⟨fun pins s _ _ _ I h => h.run pins s I⟩
theorem semT {e : Expr} : PT X e (SemT X e) := ⟨fun pins s _ _ _ I h => h.run pins s I⟩
theorem semA {es : List Expr} : PA X es (SemA X es) := ⟨fun pos pins s _ _ _ I h => h.run pos pins s I⟩
theorem semS {st : Stmt} : PS X st (SemS X st) := ⟨fun pins s _ _ _ I h => h.run pins s I⟩
theorem semSs {st : List Stmt} : PSs X st (SemSs X st) := ⟨fun pins s _ _ _ I h => h.run pins s I⟩
theorem of_pe {e : Expr} {t : TE} {σ : St} {H : Hp} {Q : VK} (h : PE X e t) (q : t σ H Q) : SemE X e σ H Q := ⟨fun pins s I => h.run pins s σ H Q I q⟩
theorem of_pt {e : Expr} {t : TT} {σ : St} {H : Hp} {Q : Bool → Hp → Prop} (h : PT X e t) (q : t σ H Q) : SemT X e σ H Q := ⟨fun pins s I => h.run pins s σ H Q I q⟩
theorem of_pa {es : List Expr} {t : TA} {σ : St} {H : Hp} {Q : List V → Hp → Prop} (h : PA X es t) (q : t σ H Q) : SemA X es σ H Q := ⟨fun pos pins s I => h.run pos pins s σ H Q I q⟩
theorem of_ps {st : Stmt} {t : TS} {σ : St} {H : Hp} {D : Ends} (h : PS X st t) (q : t D σ H) : SemS X st D σ H := ⟨fun pins s I => h.run pins s σ H D I q⟩
theorem of_pss {st : List Stmt} {t : TS} {σ : St} {H : Hp} {D : Ends} (h : PSs X st t) (q : t D σ H) : SemSs X st D σ H := ⟨fun pins s I => h.run pins s σ H D I q⟩
end
end Lp
set_option Elab.async false
set_option linter.all false
set_option maxRecDepth 100000
set_option maxHeartbeats 4000000
/-! Lp, part three: judgements on the text itself. JE: an expression gives data of which P holds. -/
namespace Lp
open PySem PySem.Spec L2
def JE {α : Type} [Enc α] (X : Cx) (p : OA) (e : Expr) (σ : St) (H : Hp) (P : α → Prop) : Prop :=
  ∀ H1, Go p H H1 → ∀ Q : VK, (∀ v H2 a, Go p H1 H2 → P a → Rep X.K (del p H2) v (enc a) → Q v H2) → SemE X e σ H1 Q
abbrev JV {α : Type} [Enc α] (X : Cx) (p : OA) (e : Expr) (σ : St) (H : Hp) (a : α) : Prop := JE X p e σ H (fun b : α => b = a)
def JT (X : Cx) (p : OA) (e : Expr) (σ : St) (H : Hp) (P : Bool → Prop) : Prop :=
  ∀ H1, Go p H H1 → ∀ Q : Bool → Hp → Prop, (∀ b H2, Go p H1 H2 → P b → Q b H2) → SemT X e σ H1 Q
abbrev JTV (X : Cx) (p : OA) (e : Expr) (σ : St) (H : Hp) (b : Bool) : Prop := JT X p e σ H (fun c => c = b)
def JA (X : Cx) (p : OA) (es : List Expr) (σ : St) (H : Hp) (P : List PyData → Prop) : Prop :=
  ∀ H1, Go p H H1 → ∀ Q : List V → Hp → Prop, (∀ vs H2 ds, Go p H1 H2 → P ds → Reps X.K (del p H2) vs ds → Q vs H2) → SemA X es σ H1 Q
section
variable {X : Cx} {p : OA} {σ : St} {H H' : Hp} {e a b c : Expr} {es : List Expr} {pos ps : Pos} {α β γ : Type} [Enc α] [Enc β] [Enc γ]
theorem JE.imp {P P' : α → Prop} (h : JE X p e σ H P) (i : ∀ a, P a → P' a) : JE X p e σ H P' := fun H1 g Q q => h H1 g Q fun v H2 a g2 pa r => q v H2 a g2 (i a pa) r
theorem JE.conv {P : α → Prop} {P' : β → Prop} (h : JE X p e σ H P) (i : ∀ a, P a → ∃ b, enc a = enc b ∧ P' b) : JE X p e σ H P' := fun H1 g Q q => h H1 g Q fun v H2 a g2 pa r => by
  obtain ⟨b, e, pb⟩ := i a pa
  exact q v H2 b g2 pb (by rw [← e]; exact r)
theorem JV.to {x y : α} (h : JV X p e σ H x) (e' : x = y) : JV X p e σ H y := e' ▸ h
theorem JE.mono {P : α → Prop} (h : JE X p e σ H P) (g : Go p H H') : JE X p e σ H' P := fun H1 g1 Q q => h H1 (g.trans g1) Q q
theorem JT.imp {P P' : Bool → Prop} (h : JT X p e σ H P) (i : ∀ a, P a → P' a) : JT X p e σ H P' := fun H1 g Q q => h H1 g Q fun b H2 g2 pb => q b H2 g2 (i b pb)
theorem JTV.to {x y : Bool} (h : JTV X p e σ H x) (e' : x = y) : JTV X p e σ H y := e' ▸ h
theorem JT.mono {P : Bool → Prop} (h : JT X p e σ H P) (g : Go p H H') : JT X p e σ H' P := fun H1 g1 Q q => h H1 (g.trans g1) Q q
theorem JA.mono {P : List PyData → Prop} (h : JA X p es σ H P) (g : Go p H H') : JA X p es σ H' P := fun H1 g1 Q q => h H1 (g.trans g1) Q q
/-! ### names and constants -/
theorem v_var {x : Str} (i : Nat) {v : V} {a : α} (hs : σ[i]? = some (some v)) (r : Rep X.K (del p H) v (enc a)) (hN : X.N[i]? = some x := by rfl) (hv : Vis X.env.scope x := by first | exact Or.inl rfl | exact Or.inr (Or.inl rfl) | exact Or.inr (Or.inr rfl))
    (hd : (x == ("__debug__" : Str)) = false := by decide) (hcd : (x == ("__classdict__" : Str)) = false := by decide) : JV X p (.Name x pos) σ H a := fun H1 g Q q =>
  of_pe (pv i hN hv hd hcd) ⟨v, hs, q v H1 a (.refl g.dk) rfl (r.go g)⟩
theorem v_int {i : Int} {k} : JV X p (.Constant (.int i) k pos) σ H i := fun H1 g Q q => of_pe pe_int (q _ H1 i (.refl g.dk) rfl (.int i))
theorem v_str {i : Str} {k} : JV X p (.Constant (.str i) k pos) σ H i := fun H1 g Q q => of_pe pe_str (q _ H1 i (.refl g.dk) rfl (.str i))
theorem v_bool {i : Bool} {k} : JV X p (.Constant (.bool i) k pos) σ H i := fun H1 g Q q => of_pe pe_bl (q _ H1 i (.refl g.dk) rfl (.bl i))
theorem v_none {k} : JV X p (.Constant .none k pos) σ H () := fun H1 g Q q => of_pe pe_non (q _ H1 () (.refl g.dk) rfl .non)
theorem v_glob {x : Str} {v : V} {u : Value} {a : α} (hg : Gl X x) (hm : X.mg x = some u) (r : RelV v u) (hr : ∀ J, Rep X.K J v (enc a)) (hd : (x == ("__debug__" : Str)) = false := by decide) : JV X p (.Name x pos) σ H a := fun H1 g Q q =>
  of_pe (pe_glob hg hm r hd) (q _ H1 a (.refl g.dk) rfl (hr _))
/-! ### ints -/
theorem rep_int {K : PySem.W.Frag} {J : Hp} {v : V} {i : Int} (h : Rep K J v (enc i)) : v = .int i := by cases h; rfl
theorem rep_bool {K : PySem.W.Frag} {J : Hp} {v : V} {i : Bool} (h : Rep K J v (enc i)) : v = .bl i := by cases h; rfl
theorem rep_str {K : PySem.W.Frag} {J : Hp} {v : V} {i : Str} (h : Rep K J v (enc i)) : v = .str i := by cases h; rfl
/-- an operation of two ints -/
theorem j_opI {op : Operator} {C : Int → Int → Prop} {f : Int → Int → Int} {A B : Int → Prop} (ho : OpR X (binaryOp op) (rI C fun i j => .int (f i j))) (ha : JE X p a σ H A) (hb : JE X p b σ H B) (hc : ∀ i j, A i → B j → C i j) :
    JE X p (.BinOp a op b pos) σ H (fun k : Int => ∃ i j, A i ∧ B j ∧ k = f i j) := fun H1 g Q q =>
  of_pe (pe_op ho semE semE) (ha H1 g _ fun v H2 i g2 pi r => hb H2 (g.trans g2) _ fun w H3 j g3 pj r' => by
    cases rep_int r
    cases rep_int r'
    exact ⟨i, j, rfl, rfl, hc i j pi pj, q _ H3 (f i j) (g2.trans g3) ⟨i, j, pi, pj, rfl⟩ (.int _)⟩)
theorem j_opI0 {op : Operator} {f : Int → Int → Int} {A B : Int → Prop} (ho : OpR X (binaryOp op) (rI0 fun i j => .int (f i j))) (ha : JE X p a σ H A) (hb : JE X p b σ H B) :
    JE X p (.BinOp a op b pos) σ H (fun k : Int => ∃ i j, A i ∧ B j ∧ k = f i j) := fun H1 g Q q =>
  of_pe (pe_op ho semE semE) (ha H1 g _ fun v H2 i g2 pi r => hb H2 (g.trans g2) _ fun w H3 j g3 pj r' => by
    cases rep_int r
    cases rep_int r'
    exact ⟨i, j, rfl, rfl, q _ H3 (f i j) (g2.trans g3) ⟨i, j, pi, pj, rfl⟩ (.int _)⟩)
theorem det2 {δ : Type} {A : α → Prop} {B : β → Prop} {x : α} {y : β} {f : α → β → δ} {k : δ} (h : ∃ i j, i = x ∧ j = y ∧ k = f i j) : k = f x y := by
  obtain ⟨_, _, rfl, rfl, rfl⟩ := h
  rfl
section
variable {A B : Int → Prop} {x y : Int}
theorem j_add (ha : JE X p a σ H A) (hb : JE X p b σ H B) : JE X p (.BinOp a .Add b pos) σ H (fun k : Int => ∃ i j, A i ∧ B j ∧ k = i + j) := j_opI0 op_add ha hb
theorem j_sub (ha : JE X p a σ H A) (hb : JE X p b σ H B) : JE X p (.BinOp a .Sub b pos) σ H (fun k : Int => ∃ i j, A i ∧ B j ∧ k = i - j) := j_opI0 op_sub ha hb
theorem v_add (ha : JV X p a σ H x) (hb : JV X p b σ H y) : JV X p (.BinOp a .Add b pos) σ H (x + y) := (j_add ha hb).imp fun k h => by obtain ⟨_, _, rfl, rfl, rfl⟩ := h; rfl
theorem v_sub (ha : JV X p a σ H x) (hb : JV X p b σ H y) : JV X p (.BinOp a .Sub b pos) σ H (x - y) := (j_sub ha hb).imp fun k h => by obtain ⟨_, _, rfl, rfl, rfl⟩ := h; rfl
theorem v_mul (ha : JV X p a σ H x) (hb : JV X p b σ H y) (hc : CMul x y) : JV X p (.BinOp a .Mult b pos) σ H (x * y) := (j_opI op_mul ha hb fun i j e1 e2 => by rw [e1, e2]; exact hc).imp fun k h => by obtain ⟨_, _, rfl, rfl, rfl⟩ := h; rfl
theorem v_mulW (ha : JV X p a σ H x) (hb : JV X p b σ H y) (hc : CMulW x y) : JV X p (.BinOp a .Mult b pos) σ H (x * y) := (j_opI op_mulW ha hb fun i j e1 e2 => by rw [e1, e2]; exact hc).imp fun k h => by obtain ⟨_, _, rfl, rfl, rfl⟩ := h; rfl
theorem v_mod (ha : JV X p a σ H x) (hb : JV X p b σ H y) (hc : 0 < y) : JV X p (.BinOp a .Mod b pos) σ H (x % y) := (j_opI op_mod ha hb fun i j e1 e2 => by rw [e2]; exact hc).imp fun k h => by obtain ⟨_, _, rfl, rfl, rfl⟩ := h; rfl
theorem v_div (ha : JV X p a σ H x) (hb : JV X p b σ H y) (hc : CDivW x y) : JV X p (.BinOp a .FloorDiv b pos) σ H (x / y) := (j_opI op_fdivW ha hb fun i j e1 e2 => by rw [e1, e2]; exact hc).imp fun k h => by obtain ⟨_, _, rfl, rfl, rfl⟩ := h; rfl
theorem v_pow (ha : JV X p a σ H x) (hb : JV X p b σ H y) (hc : CPow x y) : JV X p (.BinOp a .Pow b pos) σ H (x ^ y.toNat) := (j_opI op_pow ha hb fun i j e1 e2 => by rw [e1, e2]; exact hc).imp fun k h => by obtain ⟨_, _, rfl, rfl, rfl⟩ := h; rfl
theorem j_neg (ha : JE X p a σ H A) : JE X p (.UnaryOp .USub a pos) σ H (fun k : Int => ∃ i, A i ∧ k = -i) := fun H1 g Q q =>
  of_pe (pe_un un_neg semE) (ha H1 g _ fun v H2 i g2 pi r => by
    cases rep_int r
    exact ⟨i, rfl, q _ H2 (-i) g2 ⟨i, pi, rfl⟩ (.int _)⟩)
theorem v_neg (ha : JV X p a σ H x) : JV X p (.UnaryOp .USub a pos) σ H (-x) := (j_neg ha).imp fun k h => by obtain ⟨_, rfl, rfl⟩ := h; rfl
end
/-- a comparison of two ints -/
theorem v_cmpI {op : CmpOp} {f : Int → Int → Bool} {x y : Int} (ho : OpR X (compareOp op) (rI0 fun i j => .bl (f i j))) (ha : JV X p a σ H x) (hb : JV X p b σ H y) (hm : behindInMarks op b = false) :
    JV X p (.Compare a [op] [b] pos) σ H (f x y) := fun H1 g Q q =>
  of_pe (pe_cmpR ho semE semE hm) (ha H1 g _ fun v H2 i g2 pi r => hb H2 (g.trans g2) _ fun w H3 j g3 pj r' => by
    subst pi pj
    cases rep_int r
    cases rep_int r'
    exact ⟨i, j, rfl, rfl, q _ H3 _ (g2.trans g3) rfl (.bl _)⟩)

theorem v_eqS {x y : Str} (ha : JV X p a σ H x) (hb : JV X p b σ H y) (hm : behindInMarks .Eq b = false := by first | exact nomark _ | rfl) : JV X p (.Compare a [.Eq] [b] pos) σ H (decide (x = y)) := fun H1 g Q q =>
  of_pe (pe_cmpR op_eq semE semE hm) (ha H1 g _ fun v H2 i g2 pi r => hb H2 (g.trans g2) _ fun w H3 j g3 pj r' => by
    subst pi pj
    cases rep_str r
    cases rep_str r'
    refine ⟨rfl, q _ H3 _ (g2.trans g3) rfl ?_⟩
    rw [show decide (V.str i = V.str j) = decide (i = j) from decide_eq_decide.mpr ⟨fun e => V.str.inj e, fun e => congrArg V.str e⟩]
    exact .bl _)
theorem v_neS {x y : Str} (ha : JV X p a σ H x) (hb : JV X p b σ H y) (hm : behindInMarks .NotEq b = false := by first | exact nomark _ | rfl) : JV X p (.Compare a [.NotEq] [b] pos) σ H (!decide (x = y)) := fun H1 g Q q =>
  of_pe (pe_cmpR op_ne semE semE hm) (ha H1 g _ fun v H2 i g2 pi r => hb H2 (g.trans g2) _ fun w H3 j g3 pj r' => by
    subst pi pj
    cases rep_str r
    cases rep_str r'
    refine ⟨rfl, q _ H3 _ (g2.trans g3) rfl ?_⟩
    rw [show decide (V.str i = V.str j) = decide (i = j) from decide_eq_decide.mpr ⟨fun e => V.str.inj e, fun e => congrArg V.str e⟩]
    exact .bl _)
theorem v_eqI {x y : Int} (ha : JV X p a σ H x) (hb : JV X p b σ H y) (hm : behindInMarks .Eq b = false := by first | exact nomark _ | rfl) : JV X p (.Compare a [.Eq] [b] pos) σ H (decide (x = y)) := fun H1 g Q q =>
  of_pe (pe_cmpR op_eq semE semE hm) (ha H1 g _ fun v H2 i g2 pi r => hb H2 (g.trans g2) _ fun w H3 j g3 pj r' => by
    subst pi pj
    cases rep_int r
    cases rep_int r'
    refine ⟨rfl, q _ H3 _ (g2.trans g3) rfl ?_⟩
    rw [show decide (V.int i = V.int j) = decide (i = j) from decide_eq_decide.mpr ⟨fun e => V.int.inj e, fun e => congrArg V.int e⟩]
    exact .bl _)
mutual
theorem Rep.dp {K : PySem.W.Frag} {J : Hp} : ∀ {d : PyData} {v : V}, Rep K J v d → d.canLay0 = true → Dp K J v d
  | .none, _, h, _ => by cases h; exact .non
  | .bool _, _, h, _ => by cases h; exact .bl _
  | .int _, _, h, _ => by cases h; exact .int _
  | .str _, _, h, _ => by cases h; exact .str _
  | .list ds, _, h, c => by
    cases h with
    | lst s r => exact .lst (.inl (.inl s)) (Reps.dp r (by simpa only [PyData.canLay0] using c))
  | .tuple ds, _, h, c => by
    cases h with
    | tup s r => exact .tup s (Reps.dp r (by simpa only [PyData.canLay0] using c))
  | .dict _, _, _, c => by simp only [PyData.canLay0] at c; cases c
theorem Reps.dp {K : PySem.W.Frag} {J : Hp} : ∀ {ds : List PyData} {vs : List V}, Reps K J vs ds → PyData.canLayAll0 ds = true → DpAll K J vs ds
  | [], _, h, _ => by cases h; exact .nil
  | d :: ds, _, h, c => by
    cases h with
    | cons a b =>
      simp only [PyData.canLayAll0, Bool.and_eq_true] at c
      exact .cons (Rep.dp a c.1) (Reps.dp b c.2)
end
theorem Rep.all {K : PySem.W.Frag} {J : Hp} {v : V} {d : PyData} (h : Rep K (del p J) v d) : Rep K J v d := h.mono fun _ _ e => del_of e
theorem Reps.all {K : PySem.W.Frag} {J : Hp} {v : List V} {d : List PyData} (h : Reps K (del p J) v d) : Reps K J v d := h.mono fun _ _ e => del_of e
/-- == of data -/
theorem v_eqD {x : α} {y : β} (hu : X.A.units + 64 < cLine) (ha : JV X p a σ H x) (hb : JV X p b σ H y) (sx : SeqAt.shaped (enc x) = true) (sy : SeqAt.shaped (enc y) = true) (hm : behindInMarks .Eq b = false := by first | exact nomark _ | rfl) :
    JV X p (.Compare a [.Eq] [b] pos) σ H (PyData.eqv (enc x) (enc y)) := fun H1 g Q q =>
  of_pe (pe_cmpR (op_eqD hu) semE semE hm) (ha H1 g _ fun v H2 i g2 pi r => hb H2 (g.trans g2) _ fun w H3 j g3 pj r' => by
    subst pi pj
    exact ⟨_, _, (r.go g3).all.dp (SeqAt.canLay_of_shaped sx), r'.all.dp (SeqAt.canLay_of_shaped sy), sx, sy, q _ H3 _ (g2.trans g3) rfl (.bl _)⟩)
theorem v_neD {x : α} {y : β} (hu : X.A.units + 64 < cLine) (ha : JV X p a σ H x) (hb : JV X p b σ H y) (sx : SeqAt.shaped (enc x) = true) (sy : SeqAt.shaped (enc y) = true) (hm : behindInMarks .NotEq b = false := by first | exact nomark _ | rfl) :
    JV X p (.Compare a [.NotEq] [b] pos) σ H (!PyData.eqv (enc x) (enc y)) := fun H1 g Q q =>
  of_pe (pe_cmpR (op_neD hu) semE semE hm) (ha H1 g _ fun v H2 i g2 pi r => hb H2 (g.trans g2) _ fun w H3 j g3 pj r' => by
    subst pi pj
    exact ⟨_, _, (r.go g3).all.dp (SeqAt.canLay_of_shaped sx), r'.all.dp (SeqAt.canLay_of_shaped sy), sx, sy, q _ H3 _ (g2.trans g3) rfl (.bl _)⟩)
/-! ### and, or, not; tests -/
theorem v_and {x y : Bool} {rest : List Expr} (ha : JV X p a σ H x) (hb : x = true → JV X p (.BoolOp .And (b :: rest) pos) σ H y) : JV X p (.BoolOp .And (a :: b :: rest) pos) σ H (x && y) := fun H1 g Q q =>
  of_pe (pe_and semE semE) (ha H1 g _ fun v H2 i g2 pi r => by
    subst pi
    cases rep_bool r
    refine ⟨_, rfl, ?_⟩
    cases i with
    | true => exact iteT (hb rfl H2 (g.trans g2) Q fun v H3 k g3 e => q v H3 k (g2.trans g3) e)
    | false => exact iteF (q _ H2 _ g2 rfl r))
theorem v_one {op : BoolOp} {x : α} (ha : JV X p a σ H x) : JV X p (.BoolOp op [a] pos) σ H x := fun H1 g Q q => of_pe (pe_one semE) (ha H1 g Q q)
theorem v_or {x y : Bool} {rest : List Expr} (ha : JV X p a σ H x) (hb : x = false → JV X p (.BoolOp .Or (b :: rest) pos) σ H y) : JV X p (.BoolOp .Or (a :: b :: rest) pos) σ H (x || y) := fun H1 g Q q =>
  of_pe (pe_or semE semE) (ha H1 g _ fun v H2 i g2 pi r => by
    subst pi
    cases rep_bool r
    refine ⟨_, rfl, ?_⟩
    cases i with
    | false => exact iteF (hb rfl H2 (g.trans g2) Q fun v H3 k g3 e => q v H3 k (g2.trans g3) e)
    | true => exact iteT (q _ H2 _ g2 rfl r))
theorem v_not {x : Bool} (ha : JV X p a σ H x) : JV X p (.UnaryOp .Not a pos) σ H (!x) := fun H1 g Q q =>
  of_pe (pe_not semE) (ha H1 g _ fun v H2 i g2 pi r => by
    subst pi
    cases rep_bool r
    exact ⟨_, rfl, q _ H2 _ g2 rfl (.bl _)⟩)
/-- a test: a comparison, a call, not, and, or -/
theorem t_of {t : TE} {x : Bool} (hp : PT X e (tTest t)) (h : ∀ H1, Go p H H1 → ∀ Q : VK, (∀ v H2, Go p H1 H2 → v = .bl x → Q v H2) → t σ H1 Q) : JTV X p e σ H x := fun H1 g Q q =>
  of_pt hp (h H1 g _ fun v H2 g2 e2 => ⟨x, e2, q x H2 g2 rfl⟩)
theorem t_val {x : Bool} (ht : PT X e (tB (SemE X e))) (h : JV X p e σ H x) : JTV X p e σ H x := fun H1 g Q q =>
  of_pt ht (h H1 g _ fun v H2 i g2 pi r => by
    subst pi
    exact ⟨_, rep_bool r, q _ H2 g2 rfl⟩)
theorem t_not {x : Bool} (h : JTV X p a σ H x) : JTV X p (.UnaryOp .Not a pos) σ H (!x) := fun H1 g Q q =>
  of_pt (pt_not semT) (h H1 g _ fun c H2 g2 e => by
    subst e
    exact q _ H2 g2 rfl)
/-! ### argument lists, displays -/
theorem a_nil : JA X p [] σ H (fun ds => ds = []) := fun H1 g Q q => of_pa pa_nil (q [] H1 [] (.refl g.dk) rfl .nil)
theorem a_cons {A : α → Prop} {B : List PyData → Prop} (ha : JE X p e σ H A) (hr : JA X p es σ H B) (hs : starEach (e :: es) X.env = (false, eval e X.env) :: starEach es X.env := by rfl) :
    JA X p (e :: es) σ H (fun ds => ∃ x r, A x ∧ B r ∧ ds = enc x :: r) := fun H1 g Q q =>
  of_pa (pa_cons semE semA hs) (ha H1 g _ fun v H2 x g2 px rx => hr H2 (g.trans g2) _ fun vs H3 r g3 pr rr => q _ H3 _ (g2.trans g3) ⟨x, r, px, pr, rfl⟩ (.cons (rx.go g3) rr))
theorem a_1 {A : α → Prop} (ha : JE X p a σ H A) (hs : starEach [a] X.env = (false, eval a X.env) :: starEach [] X.env := by rfl) : JA X p [a] σ H (fun ds => ∃ x, A x ∧ ds = [enc x]) := fun H1 g Q q =>
  a_cons ha a_nil hs H1 g Q fun vs H2 ds g2 ⟨x, r, px, er, ed⟩ rr => q vs H2 ds g2 ⟨x, px, by rw [ed, er]⟩ rr
theorem a_2 {A : α → Prop} {B : β → Prop} (ha : JE X p a σ H A) (hb : JE X p b σ H B) (hs : starEach [a, b] X.env = (false, eval a X.env) :: starEach [b] X.env := by rfl) (hs2 : starEach [b] X.env = (false, eval b X.env) :: starEach [] X.env := by rfl) :
    JA X p [a, b] σ H (fun ds => ∃ x y, A x ∧ B y ∧ ds = [enc x, enc y]) := fun H1 g Q q =>
  a_cons ha (a_1 hb hs2) hs H1 g Q fun vs H2 ds g2 ⟨x, r, px, ⟨y, py, er⟩, ed⟩ rr => q vs H2 ds g2 ⟨x, y, px, py, by rw [ed, er]⟩ rr
theorem JA.imp {P P' : List PyData → Prop} (h : JA X p es σ H P) (i : ∀ ds, P ds → P' ds) : JA X p es σ H P' := fun H1 g Q q => h H1 g Q fun v H2 a g2 pa r => q v H2 a g2 (i a pa) r
/-- [a, b, ..]: any data whose list is the one told -/
theorem j_list {P : List PyData → Prop} (h : JA X p es σ H P) (hz : ∀ ds, P ds → ds.length ≤ sizeLine) : JE X p (.List es pos) σ H (fun d : PyData => ∃ ds, P ds ∧ d = .list ds) := fun H1 g Q q =>
  of_pe (pe_lst semA) (h H1 g _ fun vs H2 ds g2 pd rr => ⟨by rw [rr.len]; exact hz ds pd, fun l hl => q _ _ _ (g2.trans (.new g2.dk hl)) ⟨ds, pd, rfl⟩ (.lst (del_upd g2.dk hl) (rr.go (.new g2.dk hl)))⟩)
theorem j_tuple {P : List PyData → Prop} {k : Nat} (h : JA X p es σ H P) (hz : ∀ ds, P ds → ds.length ≤ sizeLine) : JE X p (.Tuple es k pos) σ H (fun d : PyData => ∃ ds, P ds ∧ d = .tuple ds) := fun H1 g Q q =>
  of_pe (pe_tup semA) (h H1 g _ fun vs H2 ds g2 pd rr => ⟨by rw [rr.len]; exact hz ds pd, fun l hl => q _ _ _ (g2.trans (.new g2.dk hl)) ⟨ds, pd, rfl⟩ (.tup (.inl (.inl (del_upd g2.dk hl))) (rr.go (.new g2.dk hl)))⟩)
/-! ### calls of built-ins -/
theorem j_blt {x : Str} {id : String} {r : List V → Hp → VK → Prop} {P : List PyData → Prop} {R : β → Prop} (hc : CallR X (.builtin id) r) (hg : Gl X x) (hm : X.mg x = none) (hv : bootBuiltins x = some (.builtin id)) (ha : JA X p (e :: es) σ H P)
    (hr : ∀ J vs ds, Go p H J → P ds → Reps X.K (del p J) vs ds → ∀ Q : VK, (∀ v J2 b, Go p J J2 → R b → Rep X.K (del p J2) v (enc b) → Q v J2) → r vs J Q)
    (hn : x ≠ "__name__" := by decide) (hdb : (x == ("__debug__" : Str)) = false := by decide) (he : starEach (e :: es) X.env = (false, eval e X.env) :: starEach es X.env := by rfl) (hpl : (backTo pos (starEach es X.env)).any (·.1) = false := by rfl) :
    JE X p (.Call (.Name x ps) (e :: es) [] pos) σ H R := fun H1 g Q q =>
  of_pe (pe_callB hc hg hm hv semA hn hdb he hpl) (ha H1 g _ fun vs H2 ds g2 pd rr => hr H2 vs ds (g.trans g2) pd rr Q fun v J2 b g3 rb rp => q v J2 b (g2.trans g3) rb rp)
theorem j_ty {x : Str} {id : String} {r : List V → Hp → VK → Prop} {P : List PyData → Prop} {R : β → Prop} (hc : CallR X (.type id) r) (hg : Gl X x) (hm : X.mg x = none) (hv : bootBuiltins x = some (.type id)) (ha : JA X p (e :: es) σ H P)
    (hr : ∀ J vs ds, Go p H J → P ds → Reps X.K (del p J) vs ds → ∀ Q : VK, (∀ v J2 b, Go p J J2 → R b → Rep X.K (del p J2) v (enc b) → Q v J2) → r vs J Q)
    (hn : x ≠ "__name__" := by decide) (hdb : (x == ("__debug__" : Str)) = false := by decide) (he : starEach (e :: es) X.env = (false, eval e X.env) :: starEach es X.env := by rfl) (hpl : (backTo pos (starEach es X.env)).any (·.1) = false := by rfl) :
    JE X p (.Call (.Name x ps) (e :: es) [] pos) σ H R := fun H1 g Q q =>
  of_pe (pe_callTy hc hg hm hv semA hn hdb he hpl) (ha H1 g _ fun vs H2 ds g2 pd rr => hr H2 vs ds (g.trans g2) pd rr Q fun v J2 b g3 rb rp => q v J2 b (g2.trans g3) rb rp)
end
end Lp
set_option Elab.async false
set_option linter.all false
set_option maxRecDepth 100000
set_option maxHeartbeats 4000000
/-! Lp, part four: operators by data, repr, calls of one's own defs, statements, loops. -/
namespace Lp
open PySem PySem.Spec L2
section
variable {X : Cx} {p : OA} {σ : St} {H H' : Hp} {e a b c : Expr} {es : List Expr} {pos ps : Pos} {α β γ : Type} [Enc α] [Enc β] [Enc γ]
/-! ### operators -/
def OpD (X : Cx) (r : R2) (p : OA) (x : α) (y : β) (z : γ) : Prop := ∀ J v w, DOk p J → Rep X.K (del p J) v (enc x) → Rep X.K (del p J) w (enc y) → ∀ Q : VK, (∀ u J2, Go p J J2 → Rep X.K (del p J2) u (enc z) → Q u J2) → r v w J Q
theorem v_bin {op : Operator} {r : R2} {x : α} {y : β} {z : γ} (ho : OpR X (binaryOp op) r) (ha : JV X p a σ H x) (hb : JV X p b σ H y) (d : OpD X r p x y z) : JV X p (.BinOp a op b pos) σ H z := fun H1 g Q q =>
  of_pe (pe_op ho semE semE) (ha H1 g _ fun v H2 i g2 pi rx => hb H2 (g.trans g2) _ fun w H3 j g3 pj ry => by
    subst pi pj
    exact d H3 v w g3.dk (rx.go g3) ry Q fun u J2 g4 ru => q u J2 _ ((g2.trans g3).trans g4) rfl ru)
theorem v_cmp {op : CmpOp} {r : R2} {x : α} {y : β} {z : γ} (ho : OpR X (compareOp op) r) (ha : JV X p a σ H x) (hb : JV X p b σ H y) (d : OpD X r p x y z) (hm : behindInMarks op b = false := by first | exact nomark _ | rfl) : JV X p (.Compare a [op] [b] pos) σ H z := fun H1 g Q q =>
  of_pe (pe_cmpR ho semE semE hm) (ha H1 g _ fun v H2 i g2 pi rx => hb H2 (g.trans g2) _ fun w H3 j g3 pj ry => by
    subst pi pj
    exact d H3 v w g3.dk (rx.go g3) ry Q fun u J2 g4 ru => q u J2 _ ((g2.trans g3).trans g4) rfl ru)
theorem t_cmp {op : CmpOp} {r : R2} {x : α} {y : β} {z : Bool} (ho : OpR X (compareOp op) r) (ha : JV X p a σ H x) (hb : JV X p b σ H y) (d : OpD X r p x y z) (hm : behindInMarks op b = false := by first | exact nomark _ | rfl) : JTV X p (.Compare a [op] [b] pos) σ H z := fun H1 g Q q =>
  of_pt (pt_cmpR ho semE semE hm) (ha H1 g _ fun v H2 i g2 pi rx => hb H2 (g.trans g2) _ fun w H3 j g3 pj ry => by
    subst pi pj
    exact d H3 v w g3.dk (rx.go g3) ry _ fun u J2 g4 ru => ⟨z, rep_bool ru, q z J2 ((g2.trans g3).trans g4) rfl⟩)
theorem od_I {f : Int → Int → Bool} {x y : Int} : OpD X (rI0 fun i j => .bl (f i j)) p x y (f x y) := fun J v w dk rx ry Q q => by
  cases rep_int rx
  cases rep_int ry
  exact ⟨x, y, rfl, rfl, q _ J (.refl dk) (.bl _)⟩
theorem od_eqS {x y : Str} : OpD X rEq p x y (decide (x = y)) := fun J v w dk rx ry Q q => by
  cases rep_str rx
  cases rep_str ry
  rw [show decide (x = y) = decide (V.str x = V.str y) from decide_eq_decide.mpr ⟨fun e => congrArg V.str e, fun e => V.str.inj e⟩] at q
  exact ⟨rfl, q _ J (.refl dk) (.bl _)⟩
theorem od_neS {x y : Str} : OpD X rNe p x y (!decide (x = y)) := fun J v w dk rx ry Q q => by
  cases rep_str rx
  cases rep_str ry
  rw [show decide (x = y) = decide (V.str x = V.str y) from decide_eq_decide.mpr ⟨fun e => congrArg V.str e, fun e => V.str.inj e⟩] at q
  exact ⟨rfl, q _ J (.refl dk) (.bl _)⟩
theorem od_eqI {x y : Int} : OpD X rEq p x y (decide (x = y)) := fun J v w dk rx ry Q q => by
  cases rep_int rx
  cases rep_int ry
  rw [show decide (x = y) = decide (V.int x = V.int y) from decide_eq_decide.mpr ⟨fun e => congrArg V.int e, fun e => V.int.inj e⟩] at q
  exact ⟨rfl, q _ J (.refl dk) (.bl _)⟩
theorem od_eqD {x : α} {y : β} (sx : SeqAt.shaped (enc x) = true) (sy : SeqAt.shaped (enc y) = true) : OpD X (rEqD X.K) p x y (PyData.eqv (enc x) (enc y)) := fun J v w dk rx ry Q q =>
  ⟨_, _, rx.all.dp (SeqAt.canLay_of_shaped sx), ry.all.dp (SeqAt.canLay_of_shaped sy), sx, sy, q _ J (.refl dk) (.bl _)⟩
theorem od_neD {x : α} {y : β} (sx : SeqAt.shaped (enc x) = true) (sy : SeqAt.shaped (enc y) = true) : OpD X (rNeD X.K) p x y (!PyData.eqv (enc x) (enc y)) := fun J v w dk rx ry Q q =>
  ⟨_, _, rx.all.dp (SeqAt.canLay_of_shaped sx), ry.all.dp (SeqAt.canLay_of_shaped sy), sx, sy, q _ J (.refl dk) (.bl _)⟩
/-! ### repr -/
theorem call_repr (hg : X.A.guards = some []) (hu : X.A.units + 64 < cLine) : CallR X (.builtin "repr") (fun xs J Q => ∃ v d, xs = [v] ∧ Dp X.K J v d ∧ d.showable = true ∧ d.hasDict = false ∧ d.depth ≤ 60 ∧ d.shown.length ≤ sizeLine ∧ Q (.str d.shown) J) := by
  intro pins s σ J xs us Q I r h
  obtain ⟨v, d, rfl, hd, hs, hn, hp, hz, q⟩ := h
  obtain ⟨u, rfl, ru⟩ := vals1 r
  obtain ⟨as, rd⟩ := Dp.reads I d v u hd ru
  cases hd with
  | non =>
    cases ru
    have q2 : Q (.str "None") J := by simpa only [PyData.shown] using q
    exact PySem.P.repr_of_none ⟨.str "None", J, I.tok _, ⟨_, rfl⟩, q2⟩
  | bl b =>
    cases ru
    have q2 : Q (.str (if b = true then "True" else "False")) J := by simpa only [PyData.shown] using q
    exact PySem.P.repr_of_bool ⟨.str (if b = true then "True" else "False"), J, I.tok _, ⟨_, rfl⟩, q2⟩
  | int i =>
    obtain ⟨t, rfl⟩ := ru
    simp only [PyData.showable, decide_eq_true_eq] at hs
    have q2 : Q (.str (toString i)) J := by simpa only [PyData.shown] using q
    exact PySem.P.repr_of_int hs ⟨.str (toString i), J, I.tok _, ⟨_, rfl⟩, q2⟩
  | str x =>
    obtain ⟨t, rfl⟩ := ru
    simp only [PyData.shown] at hz
    have q2 : Q (.str (reprText x)) J := by simpa only [PyData.shown] using q
    exact PySem.P.repr_of_str ⟨.str (reprText x), J, I.tok _, ⟨_, rfl⟩, q2⟩ hz
  | lst h1 h2 =>
    cases ru
    exact repr_of_reads' rd hs (PyData.noDict_hsm hn) hg (by omega) (fun _ _ e => e) (fun h' t tk k => ⟨.str (PyData.shown _), J, I.kept (t' := tk) k, ⟨_, rfl⟩, q⟩) hz
  | tup h1 h2 =>
    cases ru
    exact repr_of_reads' rd hs (PyData.noDict_hsm hn) hg (by omega) (fun _ _ e => e) (fun h' t tk k => ⟨.str (PyData.shown _), J, I.kept (t' := tk) k, ⟨_, rfl⟩, q⟩) hz
/-- what repr shows, and of what it may be asked -/
structure Shows (d : PyData) : Prop where
  lay : d.canLay0 = true
  sh : d.showable = true
  dp : d.depth ≤ 60
  sz : d.shown.length ≤ sizeLine
theorem v_repr {x : α} (hgd : X.A.guards = some []) (hu : X.A.units + 64 < cLine) (hg : Gl X "repr") (hm : X.mg "repr" = none) (ha : JV X p e σ H x) (sx : Shows (enc x)) (he : starEach [e] X.env = (false, eval e X.env) :: starEach [] X.env := by rfl) (hpl : (backTo pos (starEach [] X.env)).any (·.1) = false := by rfl) :
    JV X p (.Call (.Name "repr" ps) [e] [] pos) σ H (enc x).shown :=
  j_blt (call_repr hgd hu) hg hm (by decide +kernel) (a_1 ha he) (fun J vs ds g ⟨y, ey, ed⟩ rr Q q => by
    subst ey ed
    cases rr with
    | cons r1 r2 =>
      cases r2
      exact ⟨_, _, rfl, r1.all.dp sx.lay, sx.sh, PyData.hasDict_of_canLay _ sx.lay, sx.dp, sx.sz, q _ J _ (.refl g.dk) rfl (.str _)⟩) (by decide) (by decide) he hpl
/-! ### more built-ins of ints and texts -/
theorem v_call1 {x : Str} {id : String} {r : List V → Hp → VK → Prop} {u : α} {z : β} (hc : CallR X (.builtin id) r) (hg : Gl X x) (hm : X.mg x = none) (hv : bootBuiltins x = some (.builtin id)) (ha : JV X p e σ H u)
    (hr : ∀ J v, DOk p J → Rep X.K (del p J) v (enc u) → ∀ Q : VK, (∀ w J2, Go p J J2 → Rep X.K (del p J2) w (enc z) → Q w J2) → r [v] J Q)
    (hn : x ≠ "__name__" := by decide) (hdb : (x == ("__debug__" : Str)) = false := by decide) (he : starEach [e] X.env = (false, eval e X.env) :: starEach [] X.env := by rfl) (hpl : (backTo pos (starEach [] X.env)).any (·.1) = false := by rfl) : JV X p (.Call (.Name x ps) [e] [] pos) σ H z :=
  j_blt hc hg hm hv (a_1 ha he) (fun J vs ds g ⟨y, ey, ed⟩ rr Q q => by
    subst ey ed
    cases rr with
    | cons r1 r2 =>
      cases r2
      exact hr J _ g.dk r1 Q fun w J2 g2 rw' => q w J2 _ g2 rfl rw') hn hdb he hpl
theorem v_call2 {x : Str} {id : String} {r : List V → Hp → VK → Prop} {u : α} {u2 : γ} {z : β} (hc : CallR X (.builtin id) r) (hg : Gl X x) (hm : X.mg x = none) (hv : bootBuiltins x = some (.builtin id)) (ha : JV X p a σ H u) (hb : JV X p b σ H u2)
    (hr : ∀ J v v2, DOk p J → Rep X.K (del p J) v (enc u) → Rep X.K (del p J) v2 (enc u2) → ∀ Q : VK, (∀ w J2, Go p J J2 → Rep X.K (del p J2) w (enc z) → Q w J2) → r [v, v2] J Q)
    (hn : x ≠ "__name__" := by decide) (hdb : (x == ("__debug__" : Str)) = false := by decide) (he : starEach [a, b] X.env = (false, eval a X.env) :: starEach [b] X.env := by rfl) (he2 : starEach [b] X.env = (false, eval b X.env) :: starEach [] X.env := by rfl) (hpl : (backTo pos (starEach [b] X.env)).any (·.1) = false := by rfl) :
    JV X p (.Call (.Name x ps) [a, b] [] pos) σ H z :=
  j_blt hc hg hm hv (a_2 ha hb he he2) (fun J vs ds g ⟨y, y2, ey, ey2, ed⟩ rr Q q => by
    subst ey ey2 ed
    cases rr with
    | cons r1 r2 =>
      cases r2 with
      | cons r2 r3 =>
        cases r3
        exact hr J _ _ g.dk r1 r2 Q fun w J2 g2 rw' => q w J2 _ g2 rfl rw') hn hdb he hpl
theorem v_ty1 {x : Str} {id : String} {r : List V → Hp → VK → Prop} {u : α} {z : β} (hc : CallR X (.type id) r) (hg : Gl X x) (hm : X.mg x = none) (hv : bootBuiltins x = some (.type id)) (ha : JV X p e σ H u)
    (hr : ∀ J v, DOk p J → Rep X.K (del p J) v (enc u) → ∀ Q : VK, (∀ w J2, Go p J J2 → Rep X.K (del p J2) w (enc z) → Q w J2) → r [v] J Q)
    (hn : x ≠ "__name__" := by decide) (hdb : (x == ("__debug__" : Str)) = false := by decide) (he : starEach [e] X.env = (false, eval e X.env) :: starEach [] X.env := by rfl) (hpl : (backTo pos (starEach [] X.env)).any (·.1) = false := by rfl) : JV X p (.Call (.Name x ps) [e] [] pos) σ H z :=
  j_ty hc hg hm hv (a_1 ha he) (fun J vs ds g ⟨y, ey, ed⟩ rr Q q => by
    subst ey ed
    cases rr with
    | cons r1 r2 =>
      cases r2
      exact hr J _ g.dk r1 Q fun w J2 g2 rw' => q w J2 _ g2 rfl rw') hn hdb he hpl
theorem v_abs {i : Int} (hg : Gl X "abs") (hm : X.mg "abs" = none) (ha : JV X p e σ H i) (he : starEach [e] X.env = (false, eval e X.env) :: starEach [] X.env := by rfl) (hpl : (backTo pos (starEach [] X.env)).any (·.1) = false := by rfl) : JV X p (.Call (.Name "abs" ps) [e] [] pos) σ H (if i < 0 then -i else i) :=
  v_call1 call_abs hg hm (by decide +kernel) ha (fun J v d r Q q => by
    cases rep_int r
    exact ⟨i, rfl, q _ J (.refl d) (.int _)⟩) (by decide) (by decide) he hpl
theorem v_int1 {i : Int} (hg : Gl X "int") (hm : X.mg "int" = none) (ha : JV X p e σ H i) (he : starEach [e] X.env = (false, eval e X.env) :: starEach [] X.env := by rfl) (hpl : (backTo pos (starEach [] X.env)).any (·.1) = false := by rfl) : JV X p (.Call (.Name "int" ps) [e] [] pos) σ H i :=
  v_ty1 call_int1 hg hm (by decide +kernel) ha (fun J v d r Q q => by
    cases rep_int r
    exact .inl ⟨i, rfl, q _ J (.refl d) (.int _)⟩) (by decide) (by decide) he hpl
theorem v_intB {i : Bool} (hg : Gl X "int") (hm : X.mg "int" = none) (ha : JV X p e σ H i) (he : starEach [e] X.env = (false, eval e X.env) :: starEach [] X.env := by rfl) (hpl : (backTo pos (starEach [] X.env)).any (·.1) = false := by rfl) : JV X p (.Call (.Name "int" ps) [e] [] pos) σ H (if i then (1 : Int) else 0) :=
  v_ty1 call_int1 hg hm (by decide +kernel) ha (fun J v d r Q q => by
    cases rep_bool r
    exact .inr ⟨i, rfl, q _ J (.refl d) (.int _)⟩) (by decide) (by decide) he hpl
theorem v_str1 {i : Int} (hg : Gl X "str") (hm : X.mg "str" = none) (ha : JV X p e σ H i) (hz : i.natAbs.log2 < 1920) (he : starEach [e] X.env = (false, eval e X.env) :: starEach [] X.env := by rfl) (hpl : (backTo pos (starEach [] X.env)).any (·.1) = false := by rfl) : JV X p (.Call (.Name "str" ps) [e] [] pos) σ H (toString i : Str) :=
  v_ty1 call_str_int hg hm (by decide +kernel) ha (fun J v d r Q q => by
    cases rep_int r
    exact ⟨i, rfl, hz, q _ J (.refl d) (.str _)⟩) (by decide) (by decide) he hpl
theorem v_lenS {i : Str} (hg : Gl X "len") (hm : X.mg "len" = none) (ha : JV X p e σ H i) (hz : i.length ≤ sizeLine) (he : starEach [e] X.env = (false, eval e X.env) :: starEach [] X.env := by rfl) (hpl : (backTo pos (starEach [] X.env)).any (·.1) = false := by rfl) : JV X p (.Call (.Name "len" ps) [e] [] pos) σ H (i.length : Int) :=
  v_call1 call_len_str hg hm (by decide +kernel) ha (fun J v d r Q q => by
    cases rep_str r
    exact ⟨i, rfl, hz, q _ J (.refl d) (.int _)⟩) (by decide) (by decide) he hpl
theorem v_lenL {ds : List PyData} (hg : Gl X "len") (hm : X.mg "len" = none) (ha : JV X p e σ H (PyData.list ds)) (he : starEach [e] X.env = (false, eval e X.env) :: starEach [] X.env := by rfl) (hpl : (backTo pos (starEach [] X.env)).any (·.1) = false := by rfl) : JV X p (.Call (.Name "len" ps) [e] [] pos) σ H (ds.length : Int) :=
  v_call1 call_len_seq hg hm (by decide +kernel) ha (fun J v d r Q q => by
    cases r with
    | lst s r =>
      refine ⟨_, _, rfl, .inl (ls_q s), ?_⟩
      rw [r.len]
      exact q _ J (.refl d) (.int _)) (by decide) (by decide) he hpl
/-- len, an item of a list that is known by its slot (the script) -/
theorem v_lenQ {x : Str} {px : Pos} {da : Addr} {xs : List V} (hg : Gl X "len") (hm : X.mg "len" = none) (i : Nat) (hs : σ[i]? = some (some (.ref da))) (hq : SqL X.K (del p H) da xs) (hN : X.N[i]? = some x := by rfl) (hv : Vis X.env.scope x := by first | exact Or.inl rfl | exact Or.inr (Or.inl rfl) | exact Or.inr (Or.inr rfl))
    (hd : (x == ("__debug__" : Str)) = false := by decide) (hcd : (x == ("__classdict__" : Str)) = false := by decide) (he : starEach [.Name x px] X.env = (false, eval (.Name x px) X.env) :: starEach [] X.env := by rfl) (hpl : (backTo pos (starEach [] X.env)).any (·.1) = false := by rfl) :
    JV X p (.Call (.Name "len" ps) [.Name x px] [] pos) σ H (xs.length : Int) := fun H1 g Q q =>
  of_pe (pe_callB call_len_seq hg hm (by decide +kernel) (pa_cons (pv i hN hv hd hcd) pa_nil he) (by decide) (by decide) he hpl) ⟨_, hs, da, xs, rfl, .inl (sl_del (sl_ex g.exd hq)), q _ H1 _ (.refl g.dk) rfl (.int _)⟩
theorem j_itemQ {x : Str} {px : Pos} {da : Addr} {ns : List Int} {B : Int → Prop} (i : Nat) (hs : σ[i]? = some (some (.ref da))) (hq : SqL X.K (del p H) da (ns.map V.int)) (hb : JE X p b σ H B) (h : ∀ i, B i → 0 ≤ i ∧ i < ns.length) (hN : X.N[i]? = some x := by rfl) (hv : Vis X.env.scope x := by first | exact Or.inl rfl | exact Or.inr (Or.inl rfl) | exact Or.inr (Or.inr rfl))
    (hd : (x == ("__debug__" : Str)) = false := by decide) (hcd : (x == ("__classdict__" : Str)) = false := by decide) (hx : PlainIxT b := by exact fun _ _ => rfl) : JE X p (.Subscript (.Name x px) b pos) σ H (fun _ : Int => True) := fun H1 g Q q =>
  of_pe (pe_ix ix_list (pv i hN hv hd hcd) semE hx) ⟨_, hs, hb H1 g _ fun w H3 j g3 pj ry => by
    cases rep_int ry
    obtain ⟨h0, h1⟩ := h j pj
    have hk : j.toNat < ns.length := by omega
    have hv : (ns.map V.int)[j.toNat]? = some (.int ns[j.toNat]) := by
      rw [List.getElem?_map, List.getElem?_eq_getElem hk]
      rfl
    have := atI_nat hv
    rw [Int.toNat_of_nonneg h0] at this
    exact ⟨da, _, j, _, rfl, rfl, sl_del (sl_ex (g.trans g3).exd hq), this, q _ H3 _ g3 trivial (.int _)⟩⟩
theorem v_max {i j : Int} (hc : X.calm = true) (hg : Gl X "max") (hm : X.mg "max" = none) (ha : JV X p a σ H i) (hb : JV X p b σ H j) (he : starEach [a, b] X.env = (false, eval a X.env) :: starEach [b] X.env := by rfl) (he2 : starEach [b] X.env = (false, eval b X.env) :: starEach [] X.env := by rfl) (hpl : (backTo pos (starEach [b] X.env)).any (·.1) = false := by rfl) :
    JV X p (.Call (.Name "max" ps) [a, b] [] pos) σ H (if j > i then j else i) :=
  v_call2 (call_max2 hc) hg hm (by decide +kernel) ha hb (fun J v v2 d r r2 Q q => by
    cases rep_int r
    cases rep_int r2
    exact ⟨i, j, rfl, q _ J (.refl d) (.int _)⟩) (by decide) (by decide) he he2 hpl
theorem v_min {i j : Int} (hc : X.calm = true) (hg : Gl X "min") (hm : X.mg "min" = none) (ha : JV X p a σ H i) (hb : JV X p b σ H j) (he : starEach [a, b] X.env = (false, eval a X.env) :: starEach [b] X.env := by rfl) (he2 : starEach [b] X.env = (false, eval b X.env) :: starEach [] X.env := by rfl) (hpl : (backTo pos (starEach [b] X.env)).any (·.1) = false := by rfl) :
    JV X p (.Call (.Name "min" ps) [a, b] [] pos) σ H (if j < i then j else i) :=
  v_call2 (call_min2 hc) hg hm (by decide +kernel) ha hb (fun J v v2 d r r2 Q q => by
    cases rep_int r
    cases rep_int r2
    exact ⟨i, j, rfl, q _ J (.refl d) (.int _)⟩) (by decide) (by decide) he he2 hpl
/-! ### subscripts -/
theorem v_ix {ds : List PyData} {i : Int} {d : PyData} (ha : JV X p a σ H (PyData.list ds)) (hb : JV X p b σ H i) (h : atI ds i = some d) (hs : PlainIxT b := by exact fun _ _ => rfl) : JV X p (.Subscript a b pos) σ H d := fun H1 g Q q =>
  of_pe (pe_ix ix_list semE semE hs) (ha H1 g _ fun v H2 x g2 px rx => hb H2 (g.trans g2) _ fun w H3 j g3 pj ry => by
    subst px pj
    cases rep_int ry
    cases rx.go g3 with
    | lst s r =>
      have hl := r.len
      unfold atI at h
      cases e : ixN ds.length j with
      | none =>
        rw [e] at h
        cases h
      | some k =>
        rw [e] at h
        have h' : ds[k]? = some d := h
        have hk : k < ds.length := by
          cases Nat.lt_or_ge k ds.length with
          | inl z => exact z
          | inr z => rw [List.getElem?_eq_none z] at h'; cases h'
        have hv : (_ : List V)[k]? = some _ := List.getElem?_eq_getElem (show k < _ by rw [hl]; exact hk)
        obtain ⟨d', e', r'⟩ := r.get hv
        rw [h'] at e'
        cases e'
        refine ⟨_, _, j, _, rfl, rfl, ls_q s, ?_, q _ H3 _ (g2.trans g3) rfl r'⟩
        have e2 : ixN _ j = some k := (congrArg (fun n => ixN n j) hl).trans e
        unfold atI
        rw [e2]
        exact hv)
end
end Lp
set_option Elab.async false
set_option linter.all false
set_option maxRecDepth 100000
set_option maxHeartbeats 4000000
/-! Lp, part five: one's own defs, statements, loops. -/
namespace Lp
open PySem PySem.Spec L2
/-! ### promises of one's own defs -/
/-- what it hands back is data of which R holds; the data of the arguments are ds -/
def spF {β : Type} [Enc β] (K : PySem.W.Frag) (Pre : List PyData → Prop) (R : List PyData → β → Prop) : Sp := fun vs J Q _ => ∃ (p : OA) (ds : List PyData), DOk p J ∧ Reps K (del p J) vs ds ∧ Pre ds ∧
  ∀ v J2 b, Go p J J2 → R ds b → Rep K (del p J2) v (enc b) → Q v J2
/-- the same of a def whose first argument is the dice -/
def spD {β : Type} [Enc β] (K : PySem.W.Frag) (Pre : List PyData → Prop) (R : List PyData → β → Prop) : Sp := fun vs J Q _ => ∃ (a : Addr) (p : OA) (ws : List V) (ds : List PyData), vs = .ref a :: ws ∧ p.d = some a ∧ DOk p J ∧ Reps K (del p J) ws ds ∧ Pre ds ∧
  ∀ v J2 b, Go p J J2 → R ds b → Rep K (del p J2) v (enc b) → Q v J2
section
variable {P : Program} {w : World} {K : PySem.W.Frag} {mg : Str → Option Value} {base : Heap} {β : Type} [Enc β] {Pre : List PyData → Prop} {R : List PyData → β → Prop}
abbrev XX (P : Program) (w : World) (K : PySem.W.Frag) (mg : Str → Option Value) (base : Heap) (N : List Str) (qual : Str) (st : Stmt) (f : Addr) (cdv : Value) (B : Around) (fr : List Env) (s : Shared) (J : Hp) (Z : XK) : Cx :=
  (cxOf CX0 P w K mg base N qual (defScope st) f cdv B fr s J Z).nox
theorem okF {x qual : Str} {st : Stmt} {f : Addr} {fd : FuncData} {N ps : List Str} {k : Nat} (F : Fun K x qual st f fd) (S : FnScope N ps (defScope st)) (len : ∀ ds, Pre ds → ds.length = ps.length)
    (body : ∀ (cdv : Value) (B : Around) (fr : List Env) (s : Shared) (J0 : Hp) (Z : XK), Room k (XX P w K mg base N qual st f cdv B fr s J0 Z).A → (XX P w K mg base N qual st f cdv B fr s J0 Z).A.guards = some [] →
      ∀ (p : OA) (J : Hp) (vs : List V) (ds : List PyData) (Q : VK), DOk p J → Reps K (del p J) vs ds → Pre ds → (∀ v J2 b, Go p J J2 → R ds b → Rep K (del p J2) v (enc b) → Q v J2) →
      SemSs (XX P w K mg base N qual st f cdv B fr s J0 Z) (defBody st) { nx := fun _ H' => Q .non H', rt := Q } (start N vs) J) : FnG P w K mg base CX0 (k + 1) f fd ps (spF K Pre R) :=
  okN F S (fun vs J Q Z ⟨p, ds, _, r, pr, _⟩ => by rw [r.len]; exact len ds pr) fun cdv B fr s J xs Q Z hr hg ⟨p, ds, dk, r, pr, q⟩ =>
    ⟨_, semSs, body cdv B fr s J Z hr hg p J xs ds Q dk r pr q⟩
theorem okD {x qual : Str} {st : Stmt} {f : Addr} {fd : FuncData} {N ps : List Str} {k : Nat} (F : Fun K x qual st f fd) (S : FnScope N ps (defScope st)) (len : ∀ ds, Pre ds → ds.length + 1 = ps.length)
    (body : ∀ (cdv : Value) (B : Around) (fr : List Env) (s : Shared) (J0 : Hp) (Z : XK), Room k (XX P w K mg base N qual st f cdv B fr s J0 Z).A → (XX P w K mg base N qual st f cdv B fr s J0 Z).A.guards = some [] →
      ∀ (a : Addr) (p : OA) (J : Hp) (ws : List V) (ds : List PyData) (Q : VK), p.d = some a → DOk p J → Reps K (del p J) ws ds → Pre ds → (∀ v J2 b, Go p J J2 → R ds b → Rep K (del p J2) v (enc b) → Q v J2) →
      SemSs (XX P w K mg base N qual st f cdv B fr s J0 Z) (defBody st) { nx := fun _ H' => Q .non H', rt := Q } (start N (.ref a :: ws)) J) : FnG P w K mg base CX0 (k + 1) f fd ps (spD K Pre R) :=
  okN F S (fun vs J Q Z ⟨a, p, ws, ds, e, _, _, r, pr, _⟩ => by rw [e, List.length_cons, r.len]; exact len ds pr) fun cdv B fr s J xs Q Z hr hg ⟨a, p, ws, ds, e, hp, dk, r, pr, q⟩ => by
    subst e
    exact ⟨_, semSs, body cdv B fr s J Z hr hg a p J ws ds Q hp dk r pr q⟩
end
section
variable {X : Cx} {p : OA} {σ : St} {H H' : Hp} {e a b c : Expr} {es : List Expr} {pos ps : Pos} {α β γ : Type} [Enc α] [Enc β] [Enc γ] {D : Ends}
/-- f(e, ..) -/
theorem j_fn {k : Nat} {f : Addr} {fd : FuncData} {qs : List Str} {x : Str} {Pre P : List PyData → Prop} {R : List PyData → β → Prop} (F : FnG X.prog X.w X.K X.mg X.base CX0 k f fd qs (spF X.K Pre R)) (hr : Room k X.A) (hgd : X.A.guards = some [])
    (hm : X.mg x = some (.ref f)) (hk : PySem.W.keepIn X.K (.ref f) = true) (hb : Binds X.K fd qs []) (ha : JA X p (e :: es) σ H P) (hp : ∀ ds, P ds → Pre ds) (hg : Gl X x := by rfl)
    (hdb : (x == ("__debug__" : Str)) = false := by decide) (he : starEach (e :: es) X.env = (false, eval e X.env) :: starEach es X.env := by rfl) (hpl : (backTo pos (starEach es X.env)).any (·.1) = false := by rfl) :
    JE X p (.Call (.Name x ps) (e :: es) [] pos) σ H (fun r : β => ∃ ds, P ds ∧ R ds r) := fun H1 g Q q =>
  of_pe (callG F hr hgd hg hm hk hb pass0 semA hdb he hpl) (ha H1 g _ fun vs H2 ds g2 pd rr => by
    rw [List.append_nil]
    exact ⟨p, ds, g2.dk, rr, hp ds pd, fun v J2 r g3 hR rp => q v J2 r (g2.trans g3) ⟨ds, pd, hR⟩ rp⟩)
/-- f(dice, e, ..): the dice in slot i -/
theorem j_fd {k : Nat} {f da : Addr} {fd : FuncData} {qs : List Str} {x y : Str} {py : Pos} {Pre P : List PyData → Prop} {R : List PyData → β → Prop} (F : FnG X.prog X.w X.K X.mg X.base CX0 k f fd qs (spD X.K Pre R)) (hr : Room k X.A) (hgd : X.A.guards = some [])
    (hm : X.mg x = some (.ref f)) (hk : PySem.W.keepIn X.K (.ref f) = true) (hb : Binds X.K fd qs []) (i : Nat) (hs : σ[i]? = some (some (.ref da))) (hpd : p.d = some da) (ha : JA X p es σ H P) (hp : ∀ ds, P ds → Pre ds) (hg : Gl X x := by rfl)
    (hN : X.N[i]? = some y := by rfl) (hv : Vis X.env.scope y := by first | exact Or.inl rfl | exact Or.inr (Or.inl rfl) | exact Or.inr (Or.inr rfl)) (hd : (y == ("__debug__" : Str)) = false := by decide) (hcd : (y == ("__classdict__" : Str)) = false := by decide)
    (hdb : (x == ("__debug__" : Str)) = false := by decide) (he : starEach (.Name y py :: es) X.env = (false, eval (.Name y py) X.env) :: starEach es X.env := by rfl) (hpl : (backTo pos (starEach es X.env)).any (·.1) = false := by rfl) :
    JE X p (.Call (.Name x ps) (.Name y py :: es) [] pos) σ H (fun r : β => ∃ ds, P ds ∧ R ds r) := fun H1 g Q q =>
  of_pe (callG F hr hgd hg hm hk hb pass0 (pa_cons (pv i hN hv hd hcd) semA he) hdb he hpl) ⟨_, hs, ha H1 g _ fun vs H2 ds g2 pd rr => by
    dsimp only
    rw [List.append_nil]
    exact ⟨da, p, vs, ds, rfl, hpd, g2.dk, rr, hp ds pd, fun v J2 r g3 hR rp => q v J2 r (g2.trans g3) ⟨ds, pd, hR⟩ rp⟩⟩
/-! ### statements -/
theorem ss_cons {st : Stmt} {rest : List Stmt} (h : SemS X st { D with nx := SemSs X rest D } σ H) : SemSs X (st :: rest) D σ H := of_pss (pss_cons semS semSs) h
theorem ss_nil (h : D.nx σ H) : SemSs X [] D σ H := of_pss pss_nil h
theorem s_set {P : α → Prop} {x : Str} {px : Pos} (i : Nat) (dk : DOk p H) (h : JE X p e σ H P) (nd : X.N.Nodup) (k : ∀ v H1 u, Go p H H1 → P u → Rep X.K (del p H1) v (enc u) → D.nx (σ.set i (some v)) H1) (hi : X.N[i]? = some x := by rfl)
    (hx : Loc X.env.scope x := by exact Or.inl rfl) (hs : swapsWith e (some (.Name x px)) pos.line X.env = pure false := by rfl) (hf : X.fn x = true ∨ X.env.scope.names.lookup x = some .local := by first | exact .inl rfl | exact .inr rfl) : SemS X (.Assign [.Name x px] e pos) D σ H :=
  of_ps (ps_set (i := i) nd hi hx semE hs hf) (h H (.refl dk) _ fun v H1 u g pu r => k v H1 u g pu r)
theorem s_ret {P : α → Prop} (dk : DOk p H) (h : JE X p e σ H P) (k : ∀ v H1 u, Go p H H1 → P u → Rep X.K (del p H1) v (enc u) → D.rt v H1) : SemS X (.Return (some e) pos) D σ H := of_ps (ps_ret semE) (h H (.refl dk) _ k)
theorem s_if {P : Bool → Prop} {th el : List Stmt} (dk : DOk p H) (h : JT X p c σ H P) (h1 : ∀ H1, Go p H H1 → P true → SemSs X th D σ H1) (h2 : ∀ H1, Go p H H1 → P false → SemSs X el D σ H1) : SemS X (.If c th el pos) D σ H :=
  of_ps (ps_if semT semSs semSs) (h H (.refl dk) _ fun u H1 g pu => by
    cases u with
    | true => exact iteT (h1 H1 g pu)
    | false => exact iteF (h2 H1 g pu))
/-- for x in e, e a list -/
theorem s_forL {it : Expr} {body : List Stmt} {x : Str} {px : Pos} {P : List PyData → Prop} (i : Nat) (dk : DOk p H) (hpa : PassesOwn (model X.prog X.w) X.A X.env X.xe) (hc : X.calm = true) (nd : X.N.Nodup) (h : JE X p it σ H (fun d : PyData => ∃ ds, P ds ∧ d = .list ds))
    (I : Hp → List PyData → Nat → St → Hp → Prop) (h0 : ∀ H1 ds, Go p H H1 → P ds → I H1 ds 0 σ H1) (hk : ∀ H1 ds k σ' H', Go p H H1 → I H1 ds k σ' H' → Go p H1 H')
    (hs : ∀ H1 ds k d v σ' H', Go p H H1 → P ds → ds[k]? = some d → I H1 ds k σ' H' → Rep X.K (del p H') v d → SemSs X body { D with nx := I H1 ds (k + 1), ct := I H1 ds (k + 1), bk := D.nx } (σ'.set i (some v)) H')
    (hd : ∀ H1 ds σ' H', Go p H H1 → P ds → I H1 ds ds.length σ' H' → D.nx σ' H') (hi : X.N[i]? = some x := by rfl) (hx : Loc X.env.scope x := by exact Or.inl rfl) (hf : X.fn x = true ∨ X.env.scope.names.lookup x = some .local := by first | exact .inl rfl | exact .inr rfl)
    (hfs : ∀ y, foldedSetIterable it X.env y = pure y := by intro _; rfl) : SemS X (.For (.Name x px) it body [] pos) D σ H :=
  of_ps (ps_for hpa hc (pi_list semE) (pg_name nd hi hx hf) semSs hfs) (h H (.refl dk) _ fun v H1 d g ⟨ds, pd, ed⟩ r => by
    subst ed
    cases r with
    | lst s rr =>
      have hl := rr.len
      refine ⟨_, rfl, ⟨_, ls_q s⟩, for_list (fun k σ' H' => I H1 ds k σ' H') (h0 H1 ds g pd) (fun k σ' H' _ z => ls_q ((hk H1 ds k σ' H' g z).exd _ _ s)) (fun k x σ' H' ex z => ?_) (fun σ' H' z => ?_)⟩
      · obtain ⟨d, ed, rd⟩ := rr.get ex
        exact hs H1 ds k d x σ' H' g pd ed z (rd.go (hk H1 ds k σ' H' g z))
      · rw [hl] at z
        exact hd H1 ds σ' H' g pd z)
/-- for x in range(e) -/
theorem s_forR {body : List Stmt} {x : Str} {px pr : Pos} {P : Int → Prop} (i : Nat) (dk : DOk p H) (hpa : PassesOwn (model X.prog X.w) X.A X.env X.xe) (hc : X.calm = true) (nd : X.N.Nodup) (hm : X.mg "range" = none) (h : JE X p e σ H P) (hz : ∀ n, P n → n < 2 ^ 62 ∧ -(2 ^ 62) ≤ n)
    (I : Hp → Int → Nat → St → Hp → Prop) (h0 : ∀ H1 n, Go p H H1 → P n → I H1 n 0 σ H1)
    (hs : ∀ H1 n (k : Nat) σ' H', Go p H H1 → P n → k < n.toNat → I H1 n k σ' H' → SemSs X body { D with nx := I H1 n (k + 1), ct := I H1 n (k + 1), bk := D.nx } (σ'.set i (some (.int (k : Int)))) H')
    (hd : ∀ H1 n σ' H', Go p H H1 → P n → I H1 n n.toNat σ' H' → D.nx σ' H') (hg : Gl X "range" := by rfl) (hi : X.N[i]? = some x := by rfl) (hx : Loc X.env.scope x := by exact Or.inl rfl) (hf : X.fn x = true ∨ X.env.scope.names.lookup x = some .local := by first | exact .inl rfl | exact .inr rfl)
    (he : starEach [e] X.env = [(false, eval e X.env)] := by rfl) (he1 : starEach [e] X.env = (false, eval e X.env) :: starEach [] X.env := by rfl) (hfs : ∀ y, foldedSetIterable (.Call (.Name "range" pr) [e] [] ps) X.env y = pure y := by intro _; rfl) : SemS X (.For (.Name x px) (.Call (.Name "range" pr) [e] [] ps) body [] pos) D σ H :=
  of_ps (ps_for hpa hc (pi_range1 hg hm (pa_cons semE pa_nil he1) he) (pg_name nd hi hx hf) semSs hfs) (h H (.refl dk) _ fun v H1 n g pn r => by
    cases rep_int r
    refine ⟨n, rfl, (hz n pn).2, (hz n pn).1, for_range (lo := 0) (n := n.toNat) (fun k σ' H' => I H1 n k σ' H') (h0 H1 n g pn) (fun k σ' H' hl z => ?_) (fun σ' H' z => hd H1 n σ' H' g pn z)⟩
    show SemSs X body _ (σ'.set i (some (.int ((0 : Int) + (k : Int))))) H'
    rw [Int.zero_add]
    exact hs H1 n k σ' H' g pn hl z)
end
end Lp
set_option Elab.async false
set_option linter.all false
set_option maxRecDepth 100000
set_option maxHeartbeats 4000000
/-! Lp, part six: where only bounds are known; the dice's cells. -/
namespace Lp
open PySem PySem.Spec L2
section
variable {X : Cx} {p : OA} {σ : St} {H H' : Hp} {e a b c : Expr} {es : List Expr} {pos ps : Pos} {α β γ : Type} [Enc α] [Enc β] [Enc γ] {D : Ends}
theorem j_int1 {A : Int → Prop} (hg : Gl X "int") (hm : X.mg "int" = none) (ha : JE X p e σ H A) (he : starEach [e] X.env = (false, eval e X.env) :: starEach [] X.env := by rfl) (hpl : (backTo pos (starEach [] X.env)).any (·.1) = false := by rfl) : JE X p (.Call (.Name "int" ps) [e] [] pos) σ H A :=
  j_ty call_int1 hg hm (by decide +kernel) (a_1 ha he) (fun J vs ds g ⟨y, ey, ed⟩ rr Q q => by
    subst ed
    cases rr with
    | cons r1 r2 =>
      cases r2
      cases rep_int r1
      exact .inl ⟨y, rfl, q _ J y (.refl g.dk) ey (.int _)⟩) (by decide) (by decide) he hpl
theorem t_cmpI {op : CmpOp} {f : Int → Int → Bool} {A B : Int → Prop} (ho : OpR X (compareOp op) (rI0 fun i j => .bl (f i j))) (ha : JE X p a σ H A) (hb : JE X p b σ H B) (hm : behindInMarks op b = false := by first | exact nomark _ | rfl) :
    JT X p (.Compare a [op] [b] pos) σ H (fun r => ∃ i j, A i ∧ B j ∧ r = f i j) := fun H1 g Q q =>
  of_pt (pt_cmpR ho semE semE hm) (ha H1 g _ fun v H2 i g2 pi rx => hb H2 (g.trans g2) _ fun w H3 j g3 pj ry => by
    cases rep_int rx
    cases rep_int ry
    exact ⟨i, j, rfl, rfl, _, rfl, q _ H3 (g2.trans g3) ⟨i, j, pi, pj, rfl⟩⟩)
theorem j_cmpI {op : CmpOp} {f : Int → Int → Bool} {A B : Int → Prop} (ho : OpR X (compareOp op) (rI0 fun i j => .bl (f i j))) (ha : JE X p a σ H A) (hb : JE X p b σ H B) (hm : behindInMarks op b = false := by first | exact nomark _ | rfl) :
    JE X p (.Compare a [op] [b] pos) σ H (fun r : Bool => ∃ i j, A i ∧ B j ∧ r = f i j) := fun H1 g Q q =>
  of_pe (pe_cmpR ho semE semE hm) (ha H1 g _ fun v H2 i g2 pi rx => hb H2 (g.trans g2) _ fun w H3 j g3 pj ry => by
    cases rep_int rx
    cases rep_int ry
    exact ⟨i, j, rfl, rfl, q _ H3 _ (g2.trans g3) ⟨i, j, pi, pj, rfl⟩ (.bl _)⟩)
theorem j_if {A : α → Prop} {P : Bool → Prop} (hc : JT X p c σ H P) (h1 : P true → JE X p a σ H A) (h2 : P false → JE X p b σ H A) : JE X p (.IfExp c a b pos) σ H A := fun H1 g Q q =>
  of_pe (pe_ifExp semT semE semE) (hc H1 g _ fun u H2 g2 pu => by
    cases u with
    | true => exact iteT (h1 pu H2 (g.trans g2) Q fun v H3 x g3 px r => q v H3 x (g2.trans g3) px r)
    | false => exact iteF (h2 pu H2 (g.trans g2) Q fun v H3 x g3 px r => q v H3 x (g2.trans g3) px r))
/-- dice[k] -/
theorem j_cell {da : Addr} {y : Str} {py pk ps : Pos} {kk} {k : Int} (i : Nat) (hs : σ[i]? = some (some (.ref da))) (hpd : p.d = some da) (hk : k = 0 ∨ k = 1 ∨ k = 2) (hN : X.N[i]? = some y := by rfl) (hv : Vis X.env.scope y := by first | exact Or.inl rfl | exact Or.inr (Or.inl rfl) | exact Or.inr (Or.inr rfl))
    (hd : (y == ("__debug__" : Str)) = false := by decide) (hcd : (y == ("__classdict__" : Str)) = false := by decide) : JE X p (.Subscript (.Name y py) (.Constant (.int k) kk pk) ps) σ H (fun _ : Int => True) := fun H1 g Q q => by
  obtain ⟨l, s, c, hl⟩ := g.dk.di da hpd
  have hx : ∃ x : Int, atI [V.int l, V.int s, V.int c] k = some (.int x) := by
    rcases hk with rfl | rfl | rfl
    · exact ⟨l, rfl⟩
    · exact ⟨s, rfl⟩
    · exact ⟨c, rfl⟩
  obtain ⟨x, hx⟩ := hx
  exact of_pe (pe_ix ix_list (pv i hN hv hd hcd) pe_int (fun _ _ => rfl)) ⟨_, hs, da, _, k, _, rfl, rfl, .inl (.inl hl), hx, q _ H1 x (.refl g.dk) trivial (.int x)⟩
/-- dice[k] = e -/
theorem s_cell {da : Addr} {y : Str} {py pk ps : Pos} {kk} {k : Int} {A : Int → Prop} (i : Nat) (dk : DOk p H) (hs : σ[i]? = some (some (.ref da))) (hpd : p.d = some da) (hk : k = 0 ∨ k = 1 ∨ k = 2) (he : JE X p e σ H A) (q : ∀ H1, Go p H H1 → D.nx σ H1)
    (hN : X.N[i]? = some y := by rfl) (hv : Vis X.env.scope y := by first | exact Or.inl rfl | exact Or.inr (Or.inl rfl) | exact Or.inr (Or.inr rfl))
    (hd : (y == ("__debug__" : Str)) = false := by decide) (hcd : (y == ("__classdict__" : Str)) = false := by decide)
    (h1 : swapsWithSole [.Subscript (.Name y py) (.Constant (.int k) kk pk) ps] e pos.line X.env = pure false := by rfl) (h2 : swappedStores [.Subscript (.Name y py) (.Constant (.int k) kk pk) ps] e X.env = pure none := by rfl)
    (h3 : (assignEach [.Subscript (.Name y py) (.Constant (.int k) kk pk) ps] X.env).map (·.2) = [assign (.Subscript (.Name y py) (.Constant (.int k) kk pk) ps) X.env] := by rfl) :
    SemS X (.Assign [.Subscript (.Name y py) (.Constant (.int k) kk pk) ps] e pos) D σ H :=
  of_ps (ps_asg semE (pg_sub (pv i hN hv hd hcd) pe_int set_list) h1 h2 h3) (he H (.refl dk) _ fun v H1 x g _ r => by
    obtain ⟨l, s, c, hl⟩ := g.dk.di da hpd
    cases rep_int r
    have put : ∀ zs : List V, (∃ l' s' c' : Int, zs = [.int l', .int s', .int c']) → D.nx σ (upd H1 da (.lst zs)) := fun zs ⟨l', s', c', ez⟩ => by
      refine q _ (g.trans ⟨fun b o nb eb => ?_, fun b eb => ?_, fun b m => ?_⟩)
      · have n : b ≠ da := fun z => nb (by rw [z]; exact hpd)
        rw [upd_ne n]
        exact eb
      · rw [hpd] at eb
        cases eb
        exact ⟨l', s', c', by rw [upd_same, ez]⟩
      · by_cases n : b = da
        · rw [n, upd_same]
          exact Option.some_ne_none _
        · rw [upd_ne n]
          exact g.dk.lv b m
    rcases hk with rfl | rfl | rfl
    · exact ⟨_, hs, da, _, 0, 0, rfl, rfl, hl, rfl, put _ ⟨x, s, c, rfl⟩⟩
    · exact ⟨_, hs, da, _, 1, 1, rfl, rfl, hl, rfl, put _ ⟨l, x, c, rfl⟩⟩
    · exact ⟨_, hs, da, _, 2, 2, rfl, rfl, hl, rfl, put _ ⟨l, s, x, rfl⟩⟩)
/-- return [e, ..]: the new list as it stands in the heap -/
theorem s_retL {P : List PyData → Prop} {pe : Pos} (dk : DOk p H) (h : JA X p es σ H P) (hz : ∀ ds, P ds → ds.length ≤ sizeLine) (k : ∀ q H1 vs ds, Go p H H1 → P ds → Reps X.K (del p H1) vs ds → H1 q = none → D.rt (.ref q) (upd H1 q (.lst vs))) :
    SemS X (.Return (some (.List es pe)) pos) D σ H :=
  of_ps (ps_ret (pe_lst semA)) (h H (.refl dk) _ fun vs H1 ds g pd rr => ⟨by rw [rr.len]; exact hz ds pd, fun l hl => k l H1 vs ds g pd rr hl⟩)
/-- xs[i] by bounds: some item -/
theorem j_item {ds : List PyData} {B : Int → Prop} (ha : JV X p a σ H (PyData.list ds)) (hb : JE X p b σ H B) (h : ∀ i, B i → 0 ≤ i ∧ i < ds.length) (hs : PlainIxT b := by exact fun _ _ => rfl) : JE X p (.Subscript a b pos) σ H (fun d : PyData => d ∈ ds) := fun H1 g Q q =>
  of_pe (pe_ix ix_list semE semE hs) (ha H1 g _ fun v H2 x g2 px rx => hb H2 (g.trans g2) _ fun w H3 j g3 pj ry => by
    subst px
    cases rep_int ry
    obtain ⟨h0, h1⟩ := h j pj
    cases rx.go g3 with
    | lst s r =>
      have hl := r.len
      have hk : j.toNat < ds.length := by omega
      have hv : (_ : List V)[j.toNat]? = some _ := List.getElem?_eq_getElem (show j.toNat < _ by rw [hl]; exact hk)
      obtain ⟨d', e', r'⟩ := r.get hv
      refine ⟨_, _, j, _, rfl, rfl, ls_q s, ?_, q _ H3 d' (g2.trans g3) (List.mem_of_getElem? e') r'⟩
      have := atI_nat hv
      rw [Int.toNat_of_nonneg h0] at this
      exact this)
/-- xs + ys -/
theorem j_cat {A B : List PyData → Prop} (ha : JE X p a σ H (fun d : PyData => ∃ ds, A ds ∧ d = .list ds)) (hb : JE X p b σ H (fun d : PyData => ∃ ds, B ds ∧ d = .list ds)) (hz : ∀ ds es, A ds → B es → ds.length + es.length ≤ sizeLine) :
    JE X p (.BinOp a .Add b pos) σ H (fun d : PyData => ∃ ds es, A ds ∧ B es ∧ d = .list (ds ++ es)) := fun H1 g Q q =>
  of_pe (pe_op op_cat semE semE) (ha H1 g _ fun v H2 x g2 ⟨ds, pd, ed⟩ rx => hb H2 (g.trans g2) _ fun w H3 y g3 ⟨es, pe, ee⟩ ry => by
    subst ed ee
    cases rx.go g3 with
    | lst s r =>
      cases ry with
      | lst s2 r2 =>
        refine ⟨_, _, _, _, rfl, rfl, del_of s, del_of s2, by rw [r.len, r2.len]; exact hz ds es pd pe, fun l hl => ?_⟩
        exact q _ _ _ ((g2.trans g3).trans (.new g3.dk hl)) ⟨ds, es, pd, pe, rfl⟩ (.lst (del_upd g3.dk hl) ((r.app r2).go (.new g3.dk hl))))
end
end Lp
set_option Elab.async false
set_option linter.all false
set_option maxRecDepth 100000
set_option maxHeartbeats 4000000
/-! Lp, part seven: comprehensions, zip, isinstance, more of texts. -/
namespace Lp
open PySem PySem.Spec L2
section
variable {X : Cx} {p : OA} {σ : St} {H H' : Hp} {e a b c : Expr} {es : List Expr} {pos ps : Pos} {α β γ : Type} [Enc α] [Enc β] [Enc γ] {D : Ends}
/-- a call whose value is known -/
theorem v_fn {k : Nat} {f : Addr} {fd : FuncData} {qs : List Str} {x : Str} {Pre P : List PyData → Prop} {R : List PyData → β → Prop} {r0 : β} (F : FnG X.prog X.w X.K X.mg X.base CX0 k f fd qs (spF X.K Pre R)) (hr : Room k X.A) (hgd : X.A.guards = some [])
    (hm : X.mg x = some (.ref f)) (hk : PySem.W.keepIn X.K (.ref f) = true) (hb : Binds X.K fd qs []) (ha : JA X p (e :: es) σ H P) (hp : ∀ ds, P ds → Pre ds) (hR : ∀ ds r, P ds → R ds r → r = r0) (hg : Gl X x := by rfl)
    (hdb : (x == ("__debug__" : Str)) = false := by decide) (he : starEach (e :: es) X.env = (false, eval e X.env) :: starEach es X.env := by rfl) (hpl : (backTo pos (starEach es X.env)).any (·.1) = false := by rfl) :
    JV X p (.Call (.Name x ps) (e :: es) [] pos) σ H r0 := (j_fn F hr hgd hm hk hb ha hp hg hdb he hpl).imp fun r ⟨ds, pd, hr⟩ => hR ds r pd hr
theorem v_fn1 {k : Nat} {f : Addr} {fd : FuncData} {qs : List Str} {x : Str} {Pre : List PyData → Prop} {R : List PyData → β → Prop} {u : α} {r0 : β} (F : FnG X.prog X.w X.K X.mg X.base CX0 k f fd qs (spF X.K Pre R)) (hr : Room k X.A) (hgd : X.A.guards = some [])
    (hm : X.mg x = some (.ref f)) (hk : PySem.W.keepIn X.K (.ref f) = true) (hb : Binds X.K fd qs []) (ha : JV X p a σ H u) (hp : Pre [enc u]) (hR : ∀ r, R [enc u] r → r = r0) (hg : Gl X x := by rfl)
    (hdb : (x == ("__debug__" : Str)) = false := by decide) (he : starEach [a] X.env = (false, eval a X.env) :: starEach [] X.env := by rfl) (hpl : (backTo pos (starEach [] X.env)).any (·.1) = false := by rfl) :
    JV X p (.Call (.Name x ps) [a] [] pos) σ H r0 := v_fn F hr hgd hm hk hb (a_1 ha he) (fun ds ⟨y, ey, ed⟩ => by rw [ed, ey]; exact hp) (fun ds r ⟨y, ey, ed⟩ h => hR r (by rw [← ey, ← ed]; exact h)) hg hdb he hpl
/-! ### tests joined by and, or -/
theorem t_or {x y : Bool} (ha : JTV X p a σ H x) (hb : x = false → JTV X p b σ H y) : JTV X p (.BoolOp .Or [a, b] pos) σ H (x || y) := fun H1 g Q q =>
  of_pt (PW.pt (pw_or semT (pw_or1 semT))) (ha H1 g _ fun u H2 g2 e => by
    subst e
    cases u with
    | false => exact iteF (hb rfl H2 (g.trans g2) Q fun v H3 g3 e => q v H3 (g2.trans g3) e)
    | true => exact iteT (q _ H2 g2 rfl))
theorem t_and {x y : Bool} (ha : JTV X p a σ H x) (hb : x = true → JTV X p b σ H y) : JTV X p (.BoolOp .And [a, b] pos) σ H (x && y) := fun H1 g Q q =>
  of_pt (PW.pt (pw_and semT (pw_and1 semT))) (ha H1 g _ fun u H2 g2 e => by
    subst e
    cases u with
    | true => exact iteT (hb rfl H2 (g.trans g2) Q fun v H3 g3 e => q v H3 (g2.trans g3) e)
    | false => exact iteF (q _ H2 g2 rfl))
/-- a call as a test -/
theorem t_call {x : Bool} (h : JV X p e σ H x) (he : ∀ whole, isTrue e X.env whole = (do let v ← whole; standAt e.pos; holding [v] (truthy v)) := by intro _; rfl) : JTV X p e σ H x := t_val (pt_val semE he) h
/-! ### isinstance -/
def tyN : PyData → String
  | .none => "NoneType"
  | .bool _ => "bool"
  | .int _ => "int"
  | .str _ => "str"
  | .list _ => "list"
  | .tuple _ => "tuple"
  | .dict _ => "dict"
theorem rep_ty {K : PySem.W.Frag} {J : Hp} {v : V} {d : PyData} (h : Rep K J v d) : TyX K J v (.type (tyN d)) := by
  cases h with
  | non => exact .base .non
  | bl b => exact .base (.bl b)
  | int i => exact .base (.int i)
  | str x => exact .base (.str x)
  | lst s r => exact .base (.lst s)
  | tup s r =>
    rcases s with (s | ⟨o, s⟩) | ⟨o, its, n, hk, hc, _⟩
    · exact .base (.tup s)
    · exact .fTuple s
    · exact .kTuple hk hc
  | dic s r => exact .base (.dK s)
theorem v_isi {x : Str} {cls : String} {px pc : Pos} {d : PyData} {r : Bool} (hg : Gl X "isinstance") (hm : X.mg "isinstance" = none) (hgc : Gl X x) (hmc : X.mg x = none) (hvc : bootBuiltins x = some (.type cls)) (ha : JV X p a σ H d) (hk : kitB (tyN d) cls = some r)
    (hn : x ≠ "__name__" := by decide) (hd : (x == ("__debug__" : Str)) = false := by decide) (he : starEach [a, .Name x pc] X.env = (false, eval a X.env) :: starEach [.Name x pc] X.env := by rfl) (he2 : starEach [.Name x pc] X.env = (false, eval (.Name x pc) X.env) :: starEach [] X.env := by rfl) (hpl : (backTo pos (starEach [.Name x pc] X.env)).any (·.1) = false := by rfl) :
    JV X p (.Call (.Name "isinstance" px) [a, .Name x pc] [] pos) σ H r := fun H1 g Q q =>
  of_pe (pe_callB call_isi hg hm (by decide +kernel) (pa_cons semE (pa_cons (pe_bltn (v := .ty cls) hgc hmc hvc rfl hn hd) pa_nil he2) he) (by decide) (by decide) he hpl) (ha H1 g _ fun v H2 i g2 pi rx => by
    subst pi
    exact ⟨v, .ty cls, _, _, r, rfl, .ty cls, rep_ty rx.all, kit_ty hk, q _ H2 r g2 rfl (.bl r)⟩)
/-! ### texts -/
theorem v_strip {x y : Str} {po : Pos} (ha : JV X p a σ H x) (hb : JV X p b σ H y) (hz : x.length ≤ sizeLine) (hba : attributeBase a "strip" X.env (eval a X.env) = eval a X.env := by rfl) (hl : (po.endLine == pos.line) = true := by rfl) (hfew : ((backTo pos (starEach [b] X.env)).all (fun x => !x.1) && (backToKw pos (keywordEach [] X.env)).all (fun x => x.1.isSome) && decide ([b].length + ([] : List Keyword).length + (if ([] : List Keyword).isEmpty then 0 else 1) < 30)) = true := by rfl)
    (he : starEach [b] X.env = (false, eval b X.env) :: starEach [] X.env := by rfl) (he2 : starEach [b] X.env = [(false, eval b X.env)] := by rfl) (hpl : (backTo pos (starEach [] X.env)).any (·.1) = false := by rfl) : JV X p (.Call (.Attribute a "strip" po) [b] [] pos) σ H (Txt.stripChars x y) := fun H1 g Q q =>
  of_pe (pe_bm PySem.F.plainAttrs_str PySem.F.slot_str_strip PySem.F.type_str_strip mt_stripChars semE (pa_cons semE pa_nil he) hba hfew hl he hpl) (ha H1 g _ fun v H2 i g2 pi rx => by
    subst pi
    cases rep_str rx
    exact ⟨rfl, hb H2 (g.trans g2) _ fun w H3 j g3 pj ry => by
      subst pj
      cases rep_str ry
      exact ⟨i, j, rfl, rfl, hz, q _ H3 _ (g2.trans g3) rfl (.str _)⟩⟩)
/-- s[k] -/
theorem v_sign {x : Str} {k : Int} {n : Nat} (ha : JV X p a σ H x) (hb : JV X p b σ H k) (hz : x.length ≤ 100000) (h : atI x.cps.toList k = some n) (hs : PlainIxT b := by exact fun _ _ => rfl) : JV X p (.Subscript a b pos) σ H (⟨#[n]⟩ : Str) := fun H1 g Q q =>
  of_pe (pe_ix ix_str semE semE hs) (ha H1 g _ fun v H2 i g2 pi rx => hb H2 (g.trans g2) _ fun w H3 j g3 pj ry => by
    subst pi pj
    cases rep_str rx
    cases rep_int ry
    exact ⟨i, j, n, rfl, rfl, Evl.sz_of hz, h, q _ H3 _ (g2.trans g3) rfl (.str _)⟩)
/-! ### xs[::-1], zip -/
theorem v_rev {k} {p1 p2 p3 : Pos} {ds : List PyData} (ha : JV X p a σ H (PyData.list ds)) : JV X p (.Subscript a (.Slice none none (some (.UnaryOp .USub (.Constant (.int 1) k p1) p2)) p3) pos) σ H (PyData.list ds.reverse) := fun H1 g Q q =>
  of_pe (pe_revL semE) (ha H1 g _ fun v H2 x g2 px rx => by
    subst px
    cases rx with
    | lst s r =>
      refine ⟨_, _, rfl, ls_q s, fun l hl => q _ _ _ (g2.trans (.new g2.dk hl)) rfl (.lst (del_upd g2.dk hl) ?_)⟩
      have rev : ∀ {vs : List V} {ds : List PyData}, Reps X.K (del p H2) vs ds → Reps X.K (del p H2) vs.reverse ds.reverse := fun {vs} => by
        induction vs with
        | nil =>
          intro ds h
          cases h
          exact .nil
        | cons u r ih =>
          intro ds h
          cases h with
          | cons h1 h2 =>
            rw [List.reverse_cons, List.reverse_cons]
            exact (ih h2).app (.cons h1 .nil)
      exact (rev r).go (.new g2.dk hl))
/-- for x, y in zip(e, e2), two lists of one length -/
theorem s_forZ {body : List Stmt} {x y : Str} {px py pt pz : Pos} {kk : Nat} {ds es : List PyData} (i j : Nat) (dk : DOk p H) (hpa : PassesOwn (model X.prog X.w) X.A X.env X.xe) (hc : X.calm = true) (nd : X.N.Nodup) (hm : X.mg "zip" = none) (ha : JV X p a σ H (PyData.list ds)) (hb : JV X p b σ H (PyData.list es)) (hl : ds.length = es.length)
    (I : Hp → Nat → St → Hp → Prop) (h0 : ∀ H1, Go p H H1 → I H1 0 σ H1) (hk : ∀ H1 k σ' H', Go p H H1 → I H1 k σ' H' → Go p H1 H')
    (hs : ∀ H1 k d d2 v v2 σ' H' H2, Go p H H1 → ds[k]? = some d → es[k]? = some d2 → I H1 k σ' H' → Go p H' H2 → Rep X.K (del p H2) v d → Rep X.K (del p H2) v2 d2 → SemSs X body { D with nx := I H1 (k + 1), ct := I H1 (k + 1), bk := D.nx } ((σ'.set i (some v)).set j (some v2)) H2)
    (hd : ∀ H1 σ' H', Go p H H1 → I H1 ds.length σ' H' → D.nx σ' H') (hg : Gl X "zip" := by rfl) (hi : X.N[i]? = some x := by rfl) (hx : Loc X.env.scope x := by exact Or.inl rfl) (hf : X.fn x = true ∨ X.env.scope.names.lookup x = some .local := by first | exact .inl rfl | exact .inr rfl)
    (hj : X.N[j]? = some y := by rfl) (hy : Loc X.env.scope y := by exact Or.inl rfl) (hf2 : X.fn y = true ∨ X.env.scope.names.lookup y = some .local := by first | exact .inl rfl | exact .inr rfl)
    (he : starEach [a, b] X.env = (false, eval a X.env) :: starEach [b] X.env := by rfl) (he2 : starEach [b] X.env = (false, eval b X.env) :: starEach [] X.env := by rfl) (hpl : (backTo ps (starEach [b] X.env)).any (·.1) = false := by rfl)
    (ht : (assignEach [.Name x px, .Name y py] X.env).length = 2 := by rfl) (ht2 : (assignEach [.Name x px, .Name y py] X.env).findIdx? (·.1) = none := by rfl)
    (hfs : ∀ y, foldedSetIterable (.Call (.Name "zip" pz) [a, b] [] ps) X.env y = pure y := by intro _; rfl) : SemS X (.For (.Tuple [.Name x px, .Name y py] kk pt) (.Call (.Name "zip" pz) [a, b] [] ps) body [] pos) D σ H :=
  of_ps (ps_for hpa hc (pi_zip hg hm (pa_cons semE (pa_cons semE pa_nil he2) he) he hpl) (pg_tup hc (pgs_cons (pg_name nd hi hx hf) (pgs_cons (pg_name nd hj hy hf2) pgs_nil)) ht ht2) semSs hfs) (ha H (.refl dk) _ fun v H1 x1 g1 e1 r1 => hb H1 g1 _ fun v2 H2 x2 g2 e2 r2 => by
    subst e1 e2
    cases r1.go g2 with
    | lst s1 q1 =>
      cases r2 with
      | lst s2 q2 =>
        have l1 := q1.len
        have l2 := q2.len
        have g := g1.trans g2
        refine ⟨_, _, _, _, rfl, ls_q s1, ls_q s2, RZ.for_zipL (l1.trans (hl.trans l2.symm)) (fun k σ' H' => I H2 k σ' H') (h0 H2 g) (fun k σ' H' z => ⟨ls_q ((hk H2 k σ' H' g z).exd _ _ s1), ls_q ((hk H2 k σ' H' g z).exd _ _ s2)⟩) (fun k u u2 T σ' H' eu eu2 z nT => ?_) (fun σ' H' z => ?_)⟩
        · have gk := hk H2 k σ' H' g z
          obtain ⟨d, ed, rd⟩ := q1.get eu
          obtain ⟨d2, ed2, rd2⟩ := q2.get eu2
          have gT : Go p H' (upd H' T (.tup [u, u2])) := .new gk.dk nT
          exact ⟨T, _, rfl, .inl (.inl upd_same), rfl, u, [u2], rfl, u2, [], rfl, rfl, hs H2 k d d2 u u2 σ' H' _ g ed ed2 z gT (rd.go (gk.trans gT)) (rd2.go (gk.trans gT))⟩
        · rw [l1] at z
          exact hd H2 σ' H' g z)
end
/-! ### comprehensions -/
def SemEB (X : Cx) (sc : Scope) (e : Expr) : TE := fun σ H Q => ∀ (s : Shared) (J : Hp) (C : Addr) (cl : List (Str × Addr)) (fp : List Addr), SemE (X.blk s J sc (compEnvC sc cl C X.env) fp) e σ H Q
def SemTB (X : Cx) (sc : Scope) (e : Expr) : TT := fun σ H Q => ∀ (s : Shared) (J : Hp) (C : Addr) (cl : List (Str × Addr)) (fp : List Addr), SemT (X.blk s J sc (compEnvC sc cl C X.env) fp) e σ H Q
def JEB {α : Type} [Enc α] (X : Cx) (sc : Scope) (p : OA) (e : Expr) (σ : St) (H : Hp) (P : α → Prop) : Prop := ∀ (s : Shared) (J : Hp) (C : Addr) (cl : List (Str × Addr)) (fp : List Addr), JE (X.blk s J sc (compEnvC sc cl C X.env) fp) p e σ H P
def JTB (X : Cx) (sc : Scope) (p : OA) (e : Expr) (σ : St) (H : Hp) (P : Bool → Prop) : Prop := ∀ (s : Shared) (J : Hp) (C : Addr) (cl : List (Str × Addr)) (fp : List Addr), JT (X.blk s J sc (compEnvC sc cl C X.env) fp) p e σ H P
section
variable {X : Cx} {p : OA} {σ : St} {H H' : Hp} {it elt c : Expr} {pos : Pos} {D : Ends}
theorem wipe1 {σ : St} {i : Nat} {v : Option V} : wipe (σ.set i v) [i] = wipe σ [i] := by
  show (wipe (σ.set i v) []).set i none = (wipe σ []).set i none
  show (σ.set i v).set i none = σ.set i none
  exact List.set_set ..
/-- from H, where q is not, to J, where it is -/
structure Gq (p : OA) (q : Addr) (H J : Hp) : Prop where
  no : H q = none
  go : Go p H J
  yes : J q ≠ none
theorem Gq.dk {q : Addr} {H J : Hp} (g : Gq p q H J) : DOk (p.add q) J := (g.go.sup g.yes).dk
theorem Rep.gq {K : PySem.W.Frag} {q : Addr} {H J : Hp} {v : V} {d : PyData} (h : Rep K (del p H) v d) (g : Gq p q H J) : Rep K (del (p.add q) J) v d := (h.add g.no).mono (Go.exd (p := p.add q) (g.go.sup g.yes))
theorem Reps.gq {K : PySem.W.Frag} {q : Addr} {H J : Hp} {v : List V} {d : List PyData} (h : Reps K (del p H) v d) (g : Gq p q H J) : Reps K (del (p.add q) J) v d := (h.add g.no).mono (Go.exd (p := p.add q) (g.go.sup g.yes))
/-- the reading of a comprehension over a list, with one test; f, g: the test's and the element's function -/
theorem lc_read {σ : St} {H : Hp} {i : Nat} {tt : TT} {te : TE} {P : List PyData → Prop} {f : PyData → Bool} {g : PyData → PyData} {K : PySem.W.Frag} {tl : TE}
    (hl : ∀ H1, Go p H H1 → ∀ Q : VK, (∀ v H2 d, Go p H1 H2 → (∃ ds, P ds ∧ d = PyData.list ds) → Rep K (del p H2) v d → Q v H2) → tl σ H1 Q) (hz : ∀ ds, P ds → ds.length ≤ sizeLine)
    (ht : ∀ ds d v J q, P ds → d ∈ ds → Gq p q H J → Rep K (del (p.add q) J) v d → ∀ Q : Bool → Hp → Prop, (∀ H2, Go (p.add q) J H2 → Q (f d) H2) → tt (σ.set i (some v)) J Q)
    (he : ∀ ds d v J q, P ds → d ∈ ds → f d = true → Gq p q H J → Rep K (del (p.add q) J) v d → ∀ Q : VK, (∀ v H2, Go (p.add q) J H2 → Rep K (del (p.add q) H2) v (g d) → Q v H2) → te (σ.set i (some v)) J Q) :
    ∀ H1, Go p H H1 → ∀ Q : VK, (∀ v H2 d, Go p H1 H2 → (∃ ds, P ds ∧ d = PyData.list ((ds.filter f).map g)) → Rep K (del p H2) v d → Q v H2) → tLc (iList K tl) (gName i) tt te [i] σ H1 Q := by
  intro H1 g1 Q q
  refine hl H1 g1 _ fun v H2 d g2 ⟨ds, pd, ed⟩ r => ?_
  subst ed
  cases r with
  | lst s rr =>
    have len := rr.len
    refine ⟨_, rfl, ⟨_, ls_q s⟩, fun Dn hD => ?_⟩
    have nD := g2.dk.ne hD
    have nDd : p.d ≠ some Dn := fun z => nD (.inl z)
    have fH : H Dn = none := (g1.trans g2).free hD
    have rr' := rr.add hD
    refine lc_list (fun k J => ∃ acc, J Dn = some (.lst acc) ∧ Reps K (del (p.add Dn) J) acc (((ds.take k).filter f).map g) ∧ Go p H2 J) ⟨[], upd_same, .nil, .new g2.dk hD⟩ (fun k J _ ⟨acc, e1, e2, e3⟩ => ls_q (e3.exd _ _ s)) (fun k x J ex ⟨acc, e1, e2, e3⟩ => ?_) fun J ⟨acc, e1, e2, e3⟩ => ?_
    · have gs : Gq p Dn H J := ⟨fH, (g1.trans g2).trans e3, by rw [e1]; exact Option.some_ne_none _⟩
      obtain ⟨d, ed, rd⟩ := (rr.gq ⟨hD, e3, gs.yes⟩).get ex
      have md : d ∈ ds := List.mem_of_getElem? ed
      have tk : ds.take (k + 1) = ds.take k ++ [d] := by rw [List.take_add_one, ed]; rfl
      show wipe ((wipe σ [i]).set i (some x)) [i] = wipe σ [i] ∧ _
      have es : (wipe σ [i]).set i (some x) = σ.set i (some x) := by
        show ((wipe σ []).set i none).set i (some x) = σ.set i (some x)
        exact List.set_set ..
      rw [es]
      refine ⟨wipe1, ht ds d x J Dn pd md gs rd _ fun J1 gt => ?_⟩
      have gs1 : Gq p Dn H J1 := ⟨fH, gs.go.trans gt.sub, fun z => gt.dk.lv Dn List.mem_cons_self z⟩
      cases hf : f d with
      | true =>
        refine iteT (he ds d x J1 Dn pd md hf gs1 (rd.go gt) _ fun y J2 ge ry => ?_)
        have gg := gt.trans ge
        have eD : J2 Dn = some (.lst acc) := gg.ex Dn _ nDd e1
        have gu : Go p H2 (upd J2 Dn (.lst (acc ++ [y]))) := Go.put g2.dk (e3.trans gg.sub) hD
        refine ⟨acc, eD, ?_, acc ++ [y], upd_same, ?_, gu⟩
        · have h1 := e2.len
          rw [List.length_map] at h1
          have h2 := List.length_filter_le f (ds.take k)
          have h4 : k < ds.length := (List.getElem?_eq_some_iff.mp ed).1
          have h5 := hz ds pd
          have h6 : (ds.take k).length ≤ k := List.length_take_le ..
          omega
        · rw [tk, List.filter_append, List.map_append]
          have : List.filter f [d] = [d] := by rw [List.filter_cons, hf]; rfl
          rw [this]
          exact Reps.mono del_put ((e2.go gg).app (.cons ry .nil))
      | false =>
        refine iteF ⟨acc, gt.ex Dn _ nDd e1, ?_, e3.trans gt.sub⟩
        rw [tk, List.filter_append]
        have : List.filter f [d] = [] := by rw [List.filter_cons, hf]; rfl
        rw [this, List.append_nil]
        exact e2.go gt
    · rw [len, List.take_length] at e2
      exact q _ J _ (g2.trans e3) ⟨ds, pd, rfl⟩ (.lst (by rw [del_at nD]; exact e1) e2.sub)
/-- [elt for x in it if c] -/
theorem j_lc {x : Str} {px : Pos} {sc : Scope} {P : List PyData → Prop} {f : PyData → Bool} {g : PyData → PyData} (i : Nat) (hc : X.calm = true) (nd : X.N.Nodup) (hl : JE X p it σ H (fun d : PyData => ∃ ds, P ds ∧ d = .list ds)) (hz : ∀ ds, P ds → ds.length ≤ sizeLine)
    (ok : BlkOk X.N X.env.scope sc [(x, i)])
    (ht : ∀ ds d v J q, P ds → d ∈ ds → Gq p q H J → Rep X.K (del (p.add q) J) v d → JTB X sc (p.add q) c (σ.set i (some v)) J (fun r => r = f d))
    (he : ∀ ds d v J q, P ds → d ∈ ds → f d = true → Gq p q H J → Rep X.K (del (p.add q) J) v d → JEB X sc (p.add q) elt (σ.set i (some v)) J (fun r : PyData => r = g d))
    (hi : X.N[i]? = some x := by rfl) (hx : sc.names.lookup x = some .local := by rfl)
    (hs : ∀ y, foldedSetIterable it X.env y = pure y := by intro _; rfl) :
    JE X p (.ListComp elt [⟨.Name x px, it, [c], 0⟩] sc pos) σ H (fun d : PyData => ∃ ds, P ds ∧ d = .list ((ds.filter f).map g)) := fun H1 g1 Q q =>
  of_pe (pe_lc (own := [(x, i)]) (g := gName i) (tt := SemTB X sc c) (te := SemEB X sc elt) hc nd (pi_list semE) ok
      (fun s J C cl fp => pg_name nd hi (show L2.Loc (compEnvC sc cl C X.env).scope x from .inl (lookup_relabel_local hx)) (.inr (show (compEnvC sc cl C X.env).scope.names.lookup x = some .local from lookup_relabel_local hx)))
      (fun s J C cl fp => pts_one ⟨fun pins st _ _ _ I h => (h s J C cl fp).run pins st I⟩) (fun s J C cl fp => ⟨fun pins st _ _ _ I h => (h s J C cl fp).run pins st I⟩) hs)
    (lc_read (K := X.K) (f := f) (g := g) hl hz (fun ds d v J q pd md gs r Q k s J' C cl fp => ht ds d v J q pd md gs r s J' C cl fp J (.refl gs.dk) Q fun b H2 g2 eb => by subst eb; exact k H2 g2)
      (fun ds d v J q pd md hf gs r Q k s J' C cl fp => he ds d v J q pd md hf gs r s J' C cl fp J (.refl gs.dk) Q fun v H2 a g2 ea rv => by subst ea; exact k v H2 g2 rv) H1 g1 Q q)
/-- name = [elt for x in it if c] -/
theorem s_setLc {x y : Str} {px py spos : Pos} {sc : Scope} {P : List PyData → Prop} {f : PyData → Bool} {g : PyData → PyData} (i j : Nat) (dk : DOk p H) (hc : X.calm = true) (nd : X.N.Nodup) (hl : JE X p it σ H (fun d : PyData => ∃ ds, P ds ∧ d = .list ds)) (hz : ∀ ds, P ds → ds.length ≤ sizeLine)
    (ok : BlkOk X.N X.env.scope sc [(x, i)])
    (ht : ∀ ds d v J q, P ds → d ∈ ds → Gq p q H J → Rep X.K (del (p.add q) J) v d → JTB X sc (p.add q) c (σ.set i (some v)) J (fun r => r = f d))
    (he : ∀ ds d v J q, P ds → d ∈ ds → f d = true → Gq p q H J → Rep X.K (del (p.add q) J) v d → JEB X sc (p.add q) elt (σ.set i (some v)) J (fun r : PyData => r = g d))
    (k : ∀ v H1 ds, Go p H H1 → P ds → Rep X.K (del p H1) v (.list ((ds.filter f).map g)) → D.nx (σ.set j (some v)) H1)
    (hsw : swapsWith (.ListComp elt [⟨.Name x px, it, [c], 0⟩] sc pos) (some (.Name y py)) spos.line X.env = pure true)
    (hi : X.N[i]? = some x := by rfl) (hj : X.N[j]? = some y := by rfl) (hyl : X.env.scope.names.lookup y = some .local := by rfl) (hx : sc.names.lookup x = some .local := by rfl)
    (hs : ∀ y, foldedSetIterable it X.env y = pure y := by intro _; rfl) :
    SemS X (.Assign [.Name y py] (.ListComp elt [⟨.Name x px, it, [c], 0⟩] sc pos) spos) D σ H :=
  of_ps (ps_setLc (i := j) (own := [(x, i)]) (g := gName i) (tt := SemTB X sc c) (te := SemEB X sc elt) hc nd hj hyl hsw (pi_list semE) ok
      (fun s J C cl fp => pg_name nd hi (show L2.Loc (compEnvC sc cl C X.env).scope x from .inl (lookup_relabel_local hx)) (.inr (show (compEnvC sc cl C X.env).scope.names.lookup x = some .local from lookup_relabel_local hx)))
      (fun s J C cl fp => pts_one ⟨fun pins st _ _ _ I h => (h s J C cl fp).run pins st I⟩) (fun s J C cl fp => ⟨fun pins st _ _ _ I h => (h s J C cl fp).run pins st I⟩) hs)
    (lc_read (K := X.K) (f := f) (g := g) hl hz (fun ds d v J q pd md gs r Q k s J' C cl fp => ht ds d v J q pd md gs r s J' C cl fp J (.refl gs.dk) Q fun b H2 g2 eb => by subst eb; exact k H2 g2)
      (fun ds d v J q pd md hf gs r Q k s J' C cl fp => he ds d v J q pd md hf gs r s J' C cl fp J (.refl gs.dk) Q fun v H2 a g2 ea rv => by subst ea; exact k v H2 g2 rv) H (.refl dk) _
      fun v H2 d g2 ⟨ds, pd, ed⟩ r => by
        subst ed
        exact k v H2 ds g2 pd r)
end
section
variable {X : Cx} {p : OA} {σ : St} {H H' : Hp} {e a b c : Expr} {es : List Expr} {pos ps : Pos} {α β γ : Type} [Enc α] [Enc β] [Enc γ] {D : Ends}
/-! ### displays whose items are known -/
theorem a_consV {x : α} {r : List PyData} (ha : JV X p e σ H x) (hr : JA X p es σ H (fun ds => ds = r)) (hs : starEach (e :: es) X.env = (false, eval e X.env) :: starEach es X.env := by rfl) : JA X p (e :: es) σ H (fun ds => ds = enc x :: r) :=
  (a_cons ha hr hs).imp fun ds ⟨y, t, ey, et, ed⟩ => by rw [ed, ey, et]
theorem v_list {r : List PyData} (h : JA X p es σ H (fun ds => ds = r)) (hz : r.length ≤ sizeLine) : JV X p (.List es pos) σ H (PyData.list r) := (j_list h fun ds e => by rw [e]; exact hz).imp fun d ⟨ds, e, ed⟩ => by rw [ed, e]
theorem v_tuple {r : List PyData} {k : Nat} (h : JA X p es σ H (fun ds => ds = r)) (hz : r.length ≤ sizeLine) : JV X p (.Tuple es k pos) σ H (PyData.tuple r) := (j_tuple h fun ds e => by rw [e]; exact hz).imp fun d ⟨ds, e, ed⟩ => by rw [ed, e]
/-- {k: v} -/
theorem v_dict1 {k : Key} {kc : Expr} {x : α} (hk : PE X kc (tC (kV k))) (ha : ∀ H1 q, Go p H H1 → H1 q = none → JV X (p.add q) a σ (upd H1 q (.dK [])) x) : JV X p (.Dict [some kc] [a] pos) σ H (PyData.dict [(kD k, enc x)]) := fun H1 g Q qq =>
  of_pe (pe_disp (pps_cons hk semE pps_nil) (by rfl) (by rfl) (fun z => by cases z) (by show (1 : Nat) ≤ 15; decide)) fun q hq => by
    have g1 : Go p H1 (upd H1 q (.dK [])) := .new g.dk hq
    have gs : Go (p.add q) (upd H1 q (.dK [])) (upd H1 q (.dK [])) := .refl (g1.sup (by rw [upd_same]; exact Option.some_ne_none _)).dk
    refine ha H1 q g hq _ gs _ fun v H2 i g2 ei r => ?_
    subst ei
    have nq : p.d ≠ some q := fun z => g.dk.ne hq (.inl z)
    have gp : Go p H1 (upd H2 q (.dK [(k, v)])) := Go.put g.dk (g1.trans g2.sub) hq
    exact ⟨g2.ex q _ nq upd_same, [(k, v)], rfl, by show (1 : Nat) ≤ 15; decide, qq _ _ _ gp rfl (.dic (del_upd g.dk hq) (.cons (Rep.sub (q := q) (Rep.mono del_put r)) .nil))⟩
end
end Lp
set_option Elab.async false
set_option linter.all false
set_option maxRecDepth 100000
set_option maxHeartbeats 4000000
set_option exponentiation.threshold 9000
namespace Lp
open PySem PySem.Spec L2
/-! ### numbers as texts -/
def digs (n : Int) : List Nat := (Nat.toDigits 10 n.natAbs).map Char.toNat
def sgn (n : Int) : List Nat := if n < 0 then [45] else []
theorem cps_num (n : Int) : (toString n : Str).cps.toList = sgn n ++ digs n := by
  cases n with
  | ofNat m =>
    have h : ¬ (Int.ofNat m < 0) := by simp
    show (Str.ofString (toString ((m : Nat) : Int))).cps.toList = _
    rw [PySem.W.KIN.signs_num]
    unfold sgn digs
    rw [if_neg h]
    rfl
  | negSucc m =>
    have h : Int.negSucc m < 0 := Int.negSucc_lt_zero m
    show (Str.ofString (toString (Int.negSucc m))).cps.toList = _
    rw [PyProof.Rows.signs_ofString]
    show (("-" ++ (m + 1).repr : String)).toList.map Char.toNat = _
    rw [String.toList_append, List.map_append, Nat.toList_repr]
    unfold sgn digs
    rw [if_pos h]
    rfl
theorem digs_range {n : Int} {c : Nat} (h : c ∈ digs n) : 48 ≤ c ∧ c ≤ 57 := by
  obtain ⟨ch, hc, e⟩ := List.mem_map.mp h
  have r := Nat.isDigit_of_mem_toDigits (by decide) (by decide) hc
  rw [← e]
  unfold Char.isDigit at r
  rw [Bool.and_eq_true, decide_eq_true_eq, decide_eq_true_eq] at r
  have h1 : (48 : UInt32).toNat ≤ ch.val.toNat := UInt32.le_iff_toNat_le.mp r.1
  have h2 : ch.val.toNat ≤ (57 : UInt32).toNat := UInt32.le_iff_toNat_le.mp r.2
  exact ⟨h1, h2⟩
theorem digs_len (n : Int) : (digs n).length = (Nat.toDigits 10 n.natAbs).length := List.length_map ..
theorem digs_le {n : Int} {k : Nat} (hk : 0 < k) : (digs n).length ≤ k ↔ n.natAbs < 10 ^ k := by
  rw [digs_len]
  exact Nat.length_toDigits_le_iff (by decide) hk
theorem digs_ne (n : Int) : digs n ≠ [] := fun e => by
  have h : (Nat.toDigits 10 n.natAbs) = [] := List.map_eq_nil_iff.mp e
  have l1 : (Nat.toDigits 10 n.natAbs).length ≤ 1 := by rw [h]; exact Nat.zero_le _
  have l2 : n.natAbs < 10 := by
    have := (Nat.length_toDigits_le_iff (b := 10) (n := n.natAbs) (k := 1) (by decide) (by decide)).mp l1
    omega
  rw [Nat.toDigits_of_lt_base l2] at h
  cases h
theorem tw_none {α : Type} {f : α → Bool} : ∀ {l : List α}, (∀ a ∈ l, f a = false) → l.takeWhile f = []
  | [], _ => rfl
  | a :: r, h => by rw [List.takeWhile_cons, h a List.mem_cons_self]; rfl
theorem tw_app {α : Type} {f : α → Bool} : ∀ {l r : List α}, (∀ a ∈ l, f a = true) → (∀ a ∈ r, f a = false) → (l ++ r).takeWhile f = l
  | [], r, _, h => tw_none h
  | a :: l, r, h1, h2 => by
    rw [List.cons_append, List.takeWhile_cons, h1 a List.mem_cons_self]
    show a :: (l ++ r).takeWhile f = a :: l
    rw [tw_app (fun b m => h1 b (List.mem_cons_of_mem _ m)) h2]
theorem cps_len (x : Str) : x.length = x.cps.toList.length := by
  show x.cps.size = _
  exact (Array.length_toList).symm
theorem strip_len {goes : Nat → Bool} {x : Str} {a b : List Nat} (h : x.cps.toList = a ++ b) (h1 : ∀ c ∈ a, goes c = true) (h2 : ∀ c ∈ b, goes c = false) : (Txt.stripBy goes true true x).length = b.length := by
  have lx : x.length = a.length + b.length := by rw [cps_len, h, List.length_append]
  have lo : stripLo goes true x = a.length := by
    unfold stripLo
    rw [if_pos rfl, h, tw_app h1 h2]
  have hi : stripHi goes true x a.length = x.length := by
    unfold stripHi
    rw [if_pos rfl, h, List.drop_left, tw_none fun c m => h2 c (List.mem_reverse.mp m)]
    rfl
  unfold Txt.stripBy
  split
  · rename_i e
    unfold stripSame at e
    rw [lo, Bool.and_eq_true, beq_iff_eq] at e
    have := e.1
    omega
  · unfold stripped
    rw [lo, hi]
    show (x.cps.extract a.length x.length).size = _
    rw [Array.size_extract]
    have : x.cps.size = x.length := rfl
    omega
theorem strip_num (n : Int) : (Txt.stripChars (toString n : Str) ("-" : Str)).length = (digs n).length := by
  unfold Txt.stripChars
  have e45 : ∀ c : Nat, ("-" : Str).cps.contains c = (c == 45) := fun c => by
    show (#[45] : Array Nat).contains c = _
    simp [Array.contains]
  refine strip_len (cps_num n) (fun c h => ?_) (fun c h => ?_)
  · unfold sgn at h
    split at h
    · rw [e45, List.mem_singleton.mp h]
      rfl
    · cases h
  · have := digs_range h
    rw [e45]
    exact beq_false_of_ne (by omega)
theorem num_len (n : Int) : (toString n : Str).length ≤ (digs n).length + 1 := by
  rw [cps_len, cps_num, List.length_append]
  have : (sgn n).length ≤ 1 := by
    unfold sgn
    split
    · exact Nat.le_refl _
    · exact Nat.zero_le _
  omega
theorem num_first (n : Int) : ∃ c, atI (toString n : Str).cps.toList 0 = some c ∧ (c = 45 ↔ n < 0) := by
  rw [cps_num]
  by_cases h : n < 0
  · refine ⟨45, ?_, fun _ => h, fun _ => rfl⟩
    have : sgn n = [45] := if_pos h
    rw [this]
    exact atI_nat (j := 0) rfl
  · have : sgn n = [] := if_neg h
    rw [this]
    cases e : digs n with
    | nil => exact absurd e (digs_ne n)
    | cons c r =>
      refine ⟨c, atI_nat (j := 0) rfl, fun z => ?_, fun z => absurd z h⟩
      have := digs_range (n := n) (c := c) (by rw [e]; exact List.mem_cons_self)
      omega
theorem log_lt {n : Int} {k : Nat} (h : n.natAbs < 10 ^ k) (hk : k ≤ 400) : n.natAbs.log2 < 1920 := by
  have h1 : (10 : Nat) ^ k ≤ 10 ^ 400 := Nat.pow_le_pow_right (by decide) hk
  have h2 : (10 : Nat) ^ 400 < 2 ^ 1900 := by decide +kernel
  refine Nat.lt_of_lt_of_le (PySem.Flt.log2_lt_of (k := 1900) (by decide) (by omega)) (by decide)
end Lp
set_option Elab.async false
set_option linter.all false
set_option maxRecDepth 100000
set_option maxHeartbeats 4000000
set_option exponentiation.threshold 9000
namespace K01
open PySem PySem.Spec L2 Lp
def topS (i : Nat) : Stmt := PySem.Challenge.pw_lastprices_k01_whole_integers_by_their_f.main.body.getD i (.Pass ⟨0, 0, 0, 0⟩)
abbrev sDice : Stmt := topS 5
abbrev sRoll : Stmt := topS 6
abbrev sPick : Stmt := topS 7
theorem scDice : FnScope ["_law_script", "_law_spot", "_law_cell", "_law_great", "_law_left"] ["_law_script", "_law_spot"] (defScope sDice) := ⟨rfl, rfl, rfl, by decide +kernel, rfl, by decide +kernel, by decide +kernel⟩
theorem scRoll : FnScope ["_law_dice_here", "_law_total", "_law_found", "_law_one", "_law_two"] ["_law_dice_here", "_law_total"] (defScope sRoll) := ⟨rfl, rfl, rfl, by decide +kernel, rfl, by decide +kernel, by decide +kernel⟩
theorem scPick : FnScope ["_law_dice_here", "_law_items"] ["_law_dice_here", "_law_items"] (defScope sPick) := ⟨rfl, rfl, rfl, by decide +kernel, rfl, by decide +kernel, by decide +kernel⟩
/-! ### the dice -/
def spDice (K : PySem.W.Frag) : Sp := fun vs J Q _ => ∃ (a : Addr) (ns : List Int) (k : Nat), vs = [.ref a, .int (k : Int)] ∧ SqL K J a (ns.map V.int) ∧
  ∀ q J2 (l s c : Int), J q = none → (∀ b o, J b = some o → J2 b = some o) → J2 q = some (.lst [.int l, .int s, .int c]) → Q (.ref q) J2
structure TD (mg : Str → Option Value) : Prop where
  len : mg "len" = none
  int : mg "int" = none
  abs : mg "abs" = none
  max : mg "max" = none
  min : mg "min" = none
  range : mg "range" = none
section
variable {P : Program} {w : World} {K : PySem.W.Frag} {mg : Str → Option Value} {base : Heap}
theorem pos59 : (0 : Int) < 10 ^ (59 : Int).toNat := by decide
theorem ok_dice {f : Addr} {fd : FuncData} (F : Fun K "_law_dice" "_law_dice" sDice f fd) (T : TD mg) : FnG P w K mg base CX0 1 f fd ["_law_script", "_law_spot"] (spDice K) := by
  refine okN F scDice (fun vs H Q E h => ?_) (fun cdv B fr s J xs Q Z hr hg h => ⟨_, semSs, ?_⟩)
  · obtain ⟨a, ns, k, rfl, _⟩ := h
    rfl
  · obtain ⟨a, ns, k, rfl, hS, q⟩ := h
    have dk : DOk no J := dok_none
    have hQ : SqL K (del no J) a (ns.map V.int) := by
      rw [del_none]
      exact hS
    refine ss_cons (s_set (P := fun _ : Int => True) 2 dk (j_if (t_cmpI op_lt (v_var (a := (k : Int)) 1 rfl (.int k)) (v_lenQ (by rfl) T.len 0 rfl hQ)) (fun h => ?_) (fun h => ?_)) scDice.nd fun v J1 c g1 _ r1 => ?_)
    · refine j_int1 (by rfl) T.int (j_itemQ 0 rfl hQ (v_var (a := (k : Int)) 1 rfl (.int k)) fun i e => ?_)
      obtain ⟨i', j', e1, e2, e3⟩ := h
      have := of_decide_eq_true e3.symm
      rw [List.length_map] at e2
      subst e1 e2
      rw [e]
      exact ⟨Int.natCast_nonneg _, this⟩
    · exact (v_add (v_mul v_int (v_var (a := (k : Int)) 1 rfl (.int k)) (.inl (by decide))) v_int).imp fun _ _ => trivial
    have eV := rep_int r1
    subst eV
    refine ss_cons (s_set 3 g1.dk (v_mod (v_abs (by rfl) T.abs (v_var 2 rfl r1)) (v_pow v_int v_int ⟨by decide, by decide, by decide⟩) pos59) scDice.nd fun v J2 c2 g2 e2 r2 => ?_)
    have eV := rep_int r2
    subst eV e2
    refine ss_cons (s_set 4 g2.dk (v_max (by rfl) (by rfl) T.max v_int (v_sub (v_abs (by rfl) T.abs (v_var (a := c) 2 rfl (.int c))) (v_pow v_int v_int ⟨by decide, by decide, by decide⟩))) scDice.nd fun v J3 c3 g3 e3 r3 => ?_)
    have eV := rep_int r3
    subst eV e3
    refine ss_cons (s_retL g3.dk (a_cons (v_mod (v_var 4 rfl r3) (v_mulW (v_pow v_int v_int ⟨by decide, by decide, by decide⟩) (v_pow v_int v_int ⟨by decide, by decide, by decide⟩) (wide_mul (a := 200) (b := 200) (by decide) (by decide) (by decide) (by decide) (by decide))) (by decide))
      (a_cons (v_add (v_add (v_add (v_mul (v_mod (v_var 3 rfl (r2.go g3)) v_int (by decide)) v_int (.inr (by decide))) (v_mul v_int (v_var (a := (k : Int)) 1 rfl (.int k)) (.inl (by decide)))) (v_mul v_int (v_intB (by rfl) T.int (v_cmpI op_lt (v_var (a := c) 2 rfl (.int c)) v_int (nomark _))) (.inl (by decide)))) v_int)
      (a_1 v_int))) (fun ds hd => ?_) fun qq J4 vs ds g4 hd rr nq => ?_)
    · obtain ⟨x, r, _, ⟨x2, r2, _, ⟨x3, _, rfl⟩, rfl⟩, rfl⟩ := hd
      show 3 ≤ sizeLine
      decide
    · obtain ⟨x, r, _, ⟨x2, r2, _, ⟨x3, _, rfl⟩, rfl⟩, rfl⟩ := hd
      have g := ((g1.trans g2).trans g3).trans g4
      cases rr with
      | cons z1 rr =>
        cases rr with
        | cons z2 rr =>
          cases rr with
          | cons z3 rr =>
            cases rr
            cases rep_int z1
            cases rep_int z2
            cases rep_int z3
            have ex : ∀ b o, J b = some o → J4 b = some o := fun b o e => g.ex b o (fun z => nomatch z) e
            have fr : J qq = none := g.free nq
            exact q qq _ x x2 x3 fr (fun b o e => by rw [upd_ne (ne_of_none (ex b o e) nq)]; exact ex b o e) upd_same
/-- a roll: any number below the total -/
def preRoll (ds : List PyData) : Prop := ∃ t : Int, ds = [.int t] ∧ 0 < t ∧ t.natAbs < 2 ^ 8000
def resRoll (ds : List PyData) (r : Int) : Prop := ∃ t : Int, ds = [.int t] ∧ 0 ≤ r ∧ r < t
theorem ok_roll {f : Addr} {fd : FuncData} (F : Fun K "_law_roll" "_law_roll" sRoll f fd) (T : TD mg) : FnG P w K mg base CX0 1 f fd ["_law_dice_here", "_law_total"] (spD K preRoll resRoll) := by
  refine okD F scRoll (fun ds h => ?_) (fun cdv B fr s J0 Z hr hg a p J ws ds Q hp dk rs pr q => ?_)
  · obtain ⟨t, rfl, _⟩ := h
    rfl
  · obtain ⟨t, rfl, t0, tz⟩ := pr
    cases rs with
    | cons rt rs =>
      cases rs
      cases rt
      have rT : ∀ J1, Rep K (del p J1) (.int t) (enc t) := fun _ => .int t
      refine ss_cons (s_if dk (t_cmpI op_gt (j_cell 0 rfl hp (.inl rfl)) v_int) (fun H1 g1 _ => ?_) (fun H1 g1 _ => ?_))
      · refine ss_cons (s_set (P := fun r : Int => 0 ≤ r ∧ r < t) 2 g1.dk ((j_opI op_mod (j_int1 (by rfl) T.int (j_cell 0 rfl hp (.inl rfl))) (v_var (a := t) 1 rfl (rT _)) fun i j _ e => by rw [e]; exact t0).imp fun r e => ?_) scRoll.nd fun v H2 r g2 er r2 => ?_)
        · obtain ⟨i, j, _, rfl, rfl⟩ := e
          exact ⟨Int.emod_nonneg _ (by omega), Int.emod_lt_of_pos _ t0⟩
        cases rep_int r2
        refine ss_cons (s_cell (A := fun _ => True) 0 g2.dk rfl hp (.inl rfl) ((j_opI op_fdivW (j_cell 0 rfl hp (.inl rfl)) (v_var (a := t) 1 rfl (rT _)) fun i j _ e => by rw [e]; exact wide_div t0 tz (by decide) (by decide)).imp fun _ _ => trivial) fun H3 g3 => ?_)
        refine ss_cons (s_ret g3.dk (v_var (a := r) 2 rfl (.int r)) fun v H4 r' g4 er' r4 => ?_)
        subst er'
        exact q v H4 r' (((g1.trans g2).trans g3).trans g4) ⟨t, rfl, er⟩ r4
      · refine ss_nil ?_
        refine ss_cons (s_cell (A := fun _ => True) 0 g1.dk rfl hp (.inr (.inr rfl)) ((j_add (j_cell 0 rfl hp (.inr (.inr rfl))) v_int).imp fun _ _ => trivial) fun H2 g2 => ?_)
        refine ss_cons (s_set (P := fun r : Int => 0 ≤ r ∧ r < 2305843009213693907) 3 g2.dk ((j_opI op_mod (j_int1 (A := fun _ => True) (by rfl) T.int ((j_add (j_cell 0 rfl hp (.inr (.inl rfl))) (j_opI op_mul v_int (j_cell 0 rfl hp (.inr (.inr rfl))) fun i j e _ => .inl (by rw [e]; decide))).imp fun _ _ => trivial)) v_int fun i j _ e => by rw [e]; decide).imp fun r e => ?_) scRoll.nd fun v H3 one g3 e3 r3 => ?_)
        · obtain ⟨i, j, _, rfl, rfl⟩ := e
          exact ⟨Int.emod_nonneg _ (by decide), Int.emod_lt_of_pos _ (by decide)⟩
        cases rep_int r3
        have rO : ∀ J1, Rep K (del p J1) (.int one) (enc one) := fun _ => .int one
        refine ss_cons (s_set (P := fun r : Int => True) 4 g3.dk ((j_add (j_opI op_mul (j_opI op_mod (j_int1 (A := fun _ => True) (by rfl) T.int ((j_add (v_mul (v_var (a := one) 3 rfl (rO _)) (v_var (a := one) 3 rfl (rO _)) (.inl ⟨by omega, by omega⟩)) (j_opI op_mul v_int (j_cell 0 rfl hp (.inr (.inr rfl))) fun i j e _ => .inl (by rw [e]; decide))).imp fun _ _ => trivial)) v_int fun i j _ e => by rw [e]; decide) v_int fun i j _ e => .inr (by rw [e]; decide)) (v_var (a := one) 3 rfl (rO _))).imp fun _ _ => trivial) scRoll.nd fun v H4 two g4 _ r4 => ?_)
        cases rep_int r4
        refine ss_cons (s_ret (P := fun r : Int => 0 ≤ r ∧ r < t) g4.dk ((j_opI op_mod (j_int1 (by rfl) T.int (v_div (v_var (a := two) 4 rfl (.int two)) v_int (wide_div (b := 20) (by decide) (by decide) (by decide) (by decide)))) (v_var (a := t) 1 rfl (rT _)) fun i j _ e => by rw [e]; exact t0).imp fun r e => ?_) fun v H5 r g5 er r5 => ?_)
        · obtain ⟨i, j, _, rfl, rfl⟩ := e
          exact ⟨Int.emod_nonneg _ (by omega), Int.emod_lt_of_pos _ t0⟩
        exact q v H5 r ((((g1.trans g2).trans g3).trans g4).trans g5) ⟨t, rfl, er⟩ r5
/-- a pick: one of the items -/
def prePick (ds : List PyData) : Prop := ∃ es : List PyData, ds = [.list es] ∧ 0 < es.length ∧ es.length < 2 ^ 62
def resPick (ds : List PyData) (r : PyData) : Prop := ∃ es : List PyData, ds = [.list es] ∧ r ∈ es
theorem ok_pick {f fR : Addr} {fd fdR : FuncData} (F : Fun K "_law_pick" "_law_pick" sPick f fd) (T : TD mg) (FR : Fun K "_law_roll" "_law_roll" sRoll fR fdR) (bR : Binds K fdR ["_law_dice_here", "_law_total"] []) (gR : mg "_law_roll" = some (.ref fR)) :
    FnG P w K mg base CX0 2 f fd ["_law_dice_here", "_law_items"] (spD K prePick resPick) := by
  have GR : FnG P w K mg base CX0 1 fR fdR ["_law_dice_here", "_law_total"] (spD K preRoll resRoll) := ok_roll FR T
  refine okD F scPick (fun ds h => ?_) (fun cdv B fr s J0 Z hr hg a p J ws ds Q hp dk rs pr q => ?_)
  · obtain ⟨t, rfl, _⟩ := h
    rfl
  · obtain ⟨es, rfl, n0, n1⟩ := pr
    cases rs with
    | cons rt rs =>
      cases rs
      refine ss_cons (s_ret dk (j_item (v_var 1 rfl rt) (j_fd GR hr hg gR FR.kp bR 0 rfl hp (a_1 (v_lenL (by rfl) T.len (v_var 1 rfl rt))) fun ds h => ?_) fun i h => ?_) fun v H1 d g1 hd r1 => q v H1 d g1 ⟨es, rfl, hd⟩ r1)
      · obtain ⟨x, rfl, rfl⟩ := h
        refine ⟨_, rfl, by omega, ?_⟩
        have : (2 : Nat) ^ 62 ≤ 2 ^ 8000 := Nat.pow_le_pow_right (by decide) (by decide)
        omega
      · obtain ⟨ds, ⟨x, rfl, rfl⟩, t, e, h0, h1⟩ := h
        cases e
        exact ⟨h0, h1⟩
end
end K01
set_option Elab.async false
set_option linter.all false
set_option maxRecDepth 100000
set_option maxHeartbeats 4000000
set_option exponentiation.threshold 9000
namespace K01
open PySem PySem.Spec L2 Lp
abbrev sInt : Stmt := topS 2
abbrev sCount : Stmt := topS 3
abbrev sNums : Stmt := topS 8
abbrev sLet : Stmt := topS 9
abbrev sLaw : Stmt := topS 10
theorem scInt : FnScope ["value"] ["value"] (defScope sInt) := ⟨rfl, rfl, rfl, by decide +kernel, rfl, by decide +kernel, by decide +kernel⟩
theorem scCount : FnScope ["value"] ["value"] (defScope sCount) := ⟨rfl, rfl, rfl, by decide +kernel, rfl, by decide +kernel, by decide +kernel⟩
theorem scNums : FnScope ["_law_dice_here", "_law_found", "_law_turn", "_law_size", "_law_step", "_law_number"] ["_law_dice_here"] (defScope sNums) := ⟨rfl, rfl, rfl, by decide +kernel, rfl, by decide +kernel, by decide +kernel⟩
theorem scLet : FnScope ["_law_number"] ["_law_number"] (defScope sLet) := ⟨rfl, rfl, rfl, by decide +kernel, rfl, by decide +kernel, by decide +kernel⟩
theorem scLaw : FnScope ["_law_script", "_law_spot", "_law_numbers_here", "_law_number", "_law_due", "_law_counts", "_law_one", "_law_other", "_law_odd", "_law_value"] ["_law_script"] (defScope sLaw) := ⟨rfl, rfl, rfl, by decide +kernel, rfl, by decide +kernel, by decide +kernel⟩
structure TL (mg : Str → Option Value) : Prop extends TD mg where
  isi : mg "isinstance" = none
  bool : mg "bool" = none
  str : mg "str" = none
  repr : mg "repr" = none
  zip : mg "zip" = none
/-! ### the program's defs -/
def isI : PyData → Bool
  | .int i => decide (i.natAbs < 10 ^ 60)
  | _ => false
def isC : PyData → Bool
  | .int i => decide (i.natAbs < 10 ^ 60) && decide (0 ≤ i)
  | _ => false
def pre1 (ds : List PyData) : Prop := ∃ d, ds = [d]
def resI (ds : List PyData) (r : Bool) : Prop := ∃ d, ds = [d] ∧ r = isI d
def resC (ds : List PyData) (r : Bool) : Prop := ∃ d, ds = [d] ∧ r = isC d
def eInt : PyData → Bool
  | .int _ => true
  | .bool _ => true
  | _ => false
def eBool : PyData → Bool
  | .bool _ => true
  | _ => false
theorem k_int : ["NoneType", "bool", "int", "str", "list", "tuple", "dict"].map (fun t => kitB t "int") = [some false, some true, some true, some false, some false, some false, some false] := by decide +kernel
theorem k_bool : ["NoneType", "bool", "int", "str", "list", "tuple", "dict"].map (fun t => kitB t "bool") = [some false, some true, some false, some false, some false, some false, some false] := by decide +kernel
theorem kInt (d : PyData) : kitB (tyN d) "int" = some (eInt d) := by
  have h := k_int
  simp only [List.map_cons, List.map_nil, List.cons.injEq] at h
  obtain ⟨h1, h2, h3, h4, h5, h6, h7, _⟩ := h
  cases d <;> assumption
theorem kBool (d : PyData) : kitB (tyN d) "bool" = some (eBool d) := by
  have h := k_bool
  simp only [List.map_cons, List.map_nil, List.cons.injEq] at h
  obtain ⟨h1, h2, h3, h4, h5, h6, h7, _⟩ := h
  cases d <;> assumption
section
variable {P : Program} {w : World} {K : PySem.W.Frag} {mg : Str → Option Value} {base : Heap}
theorem ok_int {f : Addr} {fd : FuncData} (F : Fun K "is_integer" "is_integer" sInt f fd) (T : TL mg) : FnG P w K mg base CX0 1 f fd ["value"] (spF K pre1 resI) := by
  refine okF F scInt (fun ds h => ?_) (fun cdv B fr s J0 Z hr hg p J vs ds Q dk rs pr q => ?_)
  · obtain ⟨d, rfl⟩ := h
    rfl
  · obtain ⟨d, rfl⟩ := pr
    cases rs with
    | cons rt rs =>
      cases rs
      refine ss_cons (s_if dk (t_or (t_not (t_call (v_isi (by rfl) T.isi (by rfl) T.int (by decide +kernel) (v_var 0 rfl rt) (kInt d)))) fun _ => t_call (v_isi (by rfl) T.isi (by rfl) T.bool (by decide +kernel) (v_var 0 rfl rt) (kBool d))) (fun H1 g1 e => ?_) (fun H1 g1 e => ?_))
      · refine ss_cons (s_ret g1.dk v_bool fun v H2 r g2 er r2 => q v H2 false (g1.trans g2) ⟨d, rfl, ?_⟩ (by rw [← er]; exact r2))
        cases d <;> first | rfl | cases e
      · refine ss_nil ?_
        cases d with
        | int i =>
          refine ss_cons (s_ret g1.dk (v_cmpI op_lt (v_abs (by rfl) T.abs (v_var (a := i) 0 rfl (rt.go g1))) (v_pow v_int v_int ⟨by decide, by decide, by decide⟩) (nomark _)) fun v H2 r g2 er r2 => q v H2 r (g1.trans g2) ⟨_, rfl, ?_⟩ r2)
          rw [er]
          show decide ((if i < 0 then -i else i) < 10 ^ (60 : Int).toNat) = decide (i.natAbs < 10 ^ 60)
          refine decide_eq_decide.mpr ?_
          have e1 : (10 : Int) ^ (60 : Int).toNat = ((10 ^ 60 : Nat) : Int) := by decide
          rw [e1]
          split <;> omega
        | none => cases e
        | bool b => cases e
        | str x => cases e
        | list x => cases e
        | tuple x => cases e
        | dict x => cases e
theorem ok_count {f fI : Addr} {fd fdI : FuncData} (F : Fun K "is_count" "is_count" sCount f fd) (T : TL mg) (FI : Fun K "is_integer" "is_integer" sInt fI fdI) (bI : Binds K fdI ["value"] []) (gI : mg "is_integer" = some (.ref fI)) :
    FnG P w K mg base CX0 2 f fd ["value"] (spF K pre1 resC) := by
  have GI : FnG P w K mg base CX0 1 fI fdI ["value"] (spF K pre1 resI) := ok_int FI T
  refine okF F scCount (fun ds h => ?_) (fun cdv B fr s J0 Z hr hg p J vs ds Q dk rs pr q => ?_)
  · obtain ⟨d, rfl⟩ := h
    rfl
  · obtain ⟨d, rfl⟩ := pr
    cases rs with
    | cons rt rs =>
      cases rs
      refine ss_cons (s_ret dk (v_and (x := isI d) (y := isC d) (v_fn GI hr hg gI FI.kp bI (a_1 (v_var (a := d) 0 rfl rt)) (fun ds h => ?_) fun ds r h1 h2 => ?_) fun hI => v_one ?_) fun v H2 r g2 er r2 => q v H2 r g2 ⟨d, rfl, ?_⟩ r2)
      · obtain ⟨x, ex, ed⟩ := h
        exact ⟨x, ed⟩
      · obtain ⟨x, ex, ed⟩ := h1
        obtain ⟨d', e1, e2⟩ := h2
        rw [ed, ex] at e1
        cases e1
        exact e2
      · cases d with
        | int i =>
          refine (v_cmpI op_ge (v_var (a := i) 0 rfl rt) v_int (nomark _)).to ?_
          have h2 : decide (i.natAbs < 10 ^ 60) = true := hI
          show decide (0 ≤ i) = (decide (i.natAbs < 10 ^ 60) && decide (0 ≤ i))
          rw [h2]
          rfl
        | none => cases hI
        | bool b => cases hI
        | str x => cases hI
        | list x => cases hI
        | tuple x => cases hI
        | dict x => cases hI
      · rw [er]
        cases d with
        | int i =>
          show (decide (i.natAbs < 10 ^ 60) && (decide (i.natAbs < 10 ^ 60) && decide (0 ≤ i))) = (decide (i.natAbs < 10 ^ 60) && decide (0 ≤ i))
          cases decide (i.natAbs < 10 ^ 60) <;> rfl
        | none => rfl
        | bool b => rfl
        | str x => rfl
        | list x => rfl
        | tuple x => rfl
        | dict x => rfl
/-! ### the law's own reading -/
def preL (ds : List PyData) : Prop := ∃ n : Int, ds = [.int n] ∧ n.natAbs < 10 ^ 200
def resL (ds : List PyData) (r : Bool) : Prop := ∃ n : Int, ds = [.int n] ∧ r = decide (n.natAbs < 10 ^ 60)
theorem size_num {n : Int} (h : n.natAbs < 10 ^ 200) : (toString n : Str).length ≤ 300 := by
  have := num_len n
  have := (digs_le (n := n) (k := 200) (by decide)).mpr h
  omega
theorem ok_let {f : Addr} {fd : FuncData} (F : Fun K "_law_is_let" "_law_is_let" sLet f fd) (T : TL mg) : FnG P w K mg base CX0 1 f fd ["_law_number"] (spF K preL resL) := by
  refine okF F scLet (fun ds h => ?_) (fun cdv B fr s J0 Z hr hg p J vs ds Q dk rs pr q => ?_)
  · obtain ⟨d, rfl, _⟩ := h
    rfl
  · obtain ⟨n, rfl, hn⟩ := pr
    cases rs with
    | cons rt rs =>
      cases rs
      have sl : (300 : Nat) ≤ sizeLine := by decide
      have hs := size_num hn
      have hd := (digs_le (n := n) (k := 200) (by decide)).mpr hn
      refine ss_cons (s_ret dk (v_cmpI op_lt (v_lenS (by rfl) T.len (v_strip (v_str1 (by rfl) T.str (v_var (a := n) 0 rfl rt) (log_lt hn (by decide))) v_str (by omega)) (by rw [strip_num]; omega)) v_int (nomark _)) fun v H2 r g2 er r2 => q v H2 r g2 ⟨n, rfl, ?_⟩ r2)
      rw [er, strip_num]
      refine decide_eq_decide.mpr ?_
      have := digs_le (n := n) (k := 60) (by decide)
      omega
end
end K01
set_option Elab.async false
set_option linter.all false
set_option maxRecDepth 100000
set_option maxHeartbeats 8000000
set_option exponentiation.threshold 9000
namespace K01
open PySem PySem.Spec L2 Lp
section
variable {P : Program} {w : World} {K : PySem.W.Frag} {mg : Str → Option Value} {base : Heap}
def pre0 (ds : List PyData) : Prop := ds = []
def NumsOk (ns : List Int) : Prop := ∀ n ∈ ns, n.natAbs < 10 ^ 100
def resN (_ : List PyData) (r : PyData) : Prop := ∃ ns : List Int, r = .list (ns.map .int) ∧ ns.length ≤ 25 ∧ NumsOk ns
theorem ten_le {k : Nat} (h : k ≤ 89) : (10 : Nat) ^ k ≤ 10 ^ 89 := Nat.pow_le_pow_right (by decide) h
theorem ok_nums {f fR fP : Addr} {fd fdR fdP : FuncData} (F : Fun K "_law_numbers" "_law_numbers" sNums f fd) (T : TL mg) (FR : Fun K "_law_roll" "_law_roll" sRoll fR fdR) (bR : Binds K fdR ["_law_dice_here", "_law_total"] []) (gR : mg "_law_roll" = some (.ref fR))
    (FP : Fun K "_law_pick" "_law_pick" sPick fP fdP) (bP : Binds K fdP ["_law_dice_here", "_law_items"] []) (gP : mg "_law_pick" = some (.ref fP)) : FnG P w K mg base CX0 3 f fd ["_law_dice_here"] (spD K pre0 resN) := by
  have GR : FnG P w K mg base CX0 2 fR fdR ["_law_dice_here", "_law_total"] (spD K preRoll resRoll) := (ok_roll FR T.toTD).mono (by decide)
  have GP : FnG P w K mg base CX0 2 fP fdP ["_law_dice_here", "_law_items"] (spD K prePick resPick) := ok_pick FP T.toTD FR bR gR
  refine okD F scNums (fun ds h => by rw [h]; rfl) (fun cdv B fr s J0 Z hr hg a p J ws ds Q hp dk rs pr q => ?_)
  have e0 : ds = [] := pr
  subst e0
  cases rs
  refine ss_cons (s_set 1 dk (v_list (a_consV v_int a_nil) (by decide)) scNums.nd fun fv H1 d g1 ed r1 => ?_)
  subst ed
  refine ss_cons (s_forR 2 g1.dk .never rfl scNums.nd T.range v_int (fun n e => by subst e; decide)
    (fun _ _ k σ' H' => Go p J H' ∧ ∃ (fv : V) (ns : List Int) (o2 o3 o4 o5 : Option V), σ' = [some (.ref a), some fv, o2, o3, o4, o5] ∧ Rep K (del p H') fv (.list (ns.map .int)) ∧ ns.length ≤ 1 + 4 * k ∧ NumsOk ns)
    (fun H2 n g2 _ => ⟨g1.trans g2, fv, [0], none, none, none, none, rfl, r1.go g2, by decide, fun n hn => by rw [List.mem_singleton.mp hn]; decide⟩)
    (fun H2 n k σ' H' g2 en hk ⟨g3, fv, ns, o2, o3, o4, o5, eσ, rf, ln, bn⟩ => ?_) (fun H2 n σ' H' g2 en ⟨g3, fv, ns, o2, o3, o4, o5, eσ, rf, ln, bn⟩ => ?_))
  · subst eσ en
    have hk6 : k < 6 := hk
    -- size = 1
    refine ss_cons (s_set 3 g3.dk v_int scNums.nd fun sv H3 sz g4 es r4 => ?_)
    subst es
    cases rep_int r4
    have G3 := g3.trans g4
    -- for step in range(pick(..))
    refine ss_cons (s_forR (P := fun m : Int => 0 ≤ m ∧ m ≤ 89) 4 g4.dk .never rfl scNums.nd T.range
      (JE.conv (j_fd GP hr hg gP FP.kp bP 0 rfl hp (a_1 (v_list (a_consV v_int (a_consV v_int (a_consV v_int (a_consV v_int (a_consV v_int (a_consV v_int (a_consV v_int (a_consV v_int (a_consV v_int a_nil))))))))) (by show 9 ≤ sizeLine; decide))) ?_) ?_) (fun m hm => by omega)
      (fun _ m j σ' H' => Go p H3 H' ∧ ∃ o4 : Option V, σ' = [some (.ref a), some fv, some (.int (k : Int)), some (.int (((10 ^ j : Nat) : Int))), o4, o5])
      (fun H4 m g5 _ => ⟨g5, o4, rfl⟩) (fun H4 m j σ' H' g5 hm hj ⟨g6, o4', eσ⟩ => ?_) (fun H4 m σ' H' g5 hm ⟨g6, o4', eσ⟩ => ?_))
    · rintro ds ⟨x, rfl, rfl⟩
      exact ⟨_, rfl, by decide, by decide⟩
    · rintro d ⟨ds, ⟨x, rfl, rfl⟩, es, e, hd⟩
      cases e
      simp only [List.mem_cons, List.not_mem_nil, or_false] at hd
      rcases hd with rfl | rfl | rfl | rfl | rfl | rfl | rfl | rfl | rfl <;> exact ⟨_, rfl, by decide, by decide⟩
    · -- size = size * 10
      subst eσ
      refine ss_cons (s_set 3 g6.dk (v_mul (v_var (a := ((10 ^ j : Nat) : Int)) 3 rfl (.int _)) v_int (.inr (by decide))) scNums.nd fun v H5 y g7 ey r7 => ss_nil ⟨g6.trans g7, some (.int (j : Int)), ?_⟩)
      subst ey
      cases rep_int r7
      have : ((10 ^ j : Nat) : Int) * 10 = ((10 ^ (j + 1) : Nat) : Int) := by rw [Nat.pow_succ]; omega
      rw [this]
      rfl
    · subst eσ
      obtain ⟨m0, m1⟩ := hm
      have hmm : m.toNat ≤ 89 := by omega
      generalize m.toNat = mm at hmm ⊢
      have tn := ten_le hmm
      have tp : 0 < 10 ^ mm := Nat.pow_pos (by decide)
      have G4 := G3.trans g6
      have rs : ∀ J1, Rep K (del p J1) (.int ((10 ^ mm : Nat) : Int)) (enc ((10 ^ mm : Nat) : Int)) := fun _ => .int _
      have tb : ∀ n : Nat, n ≤ 10 ^ 89 → n < 2 ^ 8000 := fun n h => by
        have h1 : (10 : Nat) ^ 89 < 2 ^ 300 := by decide +kernel
        have h2 : (2 : Nat) ^ 300 ≤ 2 ^ 8000 := Nat.pow_le_pow_right (by decide) (by decide)
        omega
      -- number = size + roll(3) - 1
      refine ss_cons (s_set (P := fun n : Int => n.natAbs < 10 ^ 100) 5 g6.dk ((j_sub (j_add (v_var (a := ((10 ^ mm : Nat) : Int)) 3 rfl (rs _)) (j_fd GR hr hg gR FR.kp bR 0 rfl hp (a_1 v_int) ?_)) v_int).imp ?_) scNums.nd fun nv H6 num g8 hnum r8 => ?_)
      · rintro ds ⟨x, rfl, rfl⟩
        exact ⟨_, rfl, by decide, by decide⟩
      · rintro n ⟨i, j, ⟨i1, i2, rfl, ⟨ds, ⟨x, rfl, rfl⟩, t, e, h0, h1⟩, rfl⟩, rfl, rfl⟩
        cases e
        have : (10 : Nat) ^ 100 = 10 ^ 89 * 10 ^ 11 := by decide
        have : (10 : Nat) ^ 11 = 100000000000 := by decide
        have : (10:Nat) ^ 89 > 1000 := by decide
        omega
      cases rep_int r8
      -- found = found + [..]
      have rl : ∀ ds, (∃ x, x = ((10 ^ mm : Nat) : Int) ∧ ds = [enc x]) → preRoll ds := by
        rintro ds ⟨x, rfl, rfl⟩
        exact ⟨_, rfl, by omega, tb _ (by omega)⟩
      refine ss_cons (s_set 1 g8.dk (j_cat ((v_var (a := PyData.list (ns.map .int)) 1 rfl (rf.go ((g4.trans g6).trans g8))).imp fun d e => ⟨_, rfl, e⟩)
        (j_list (a_cons (v_var (a := num) 5 rfl (.int num)) (a_cons (v_neg (v_var (a := num) 5 rfl (.int num))) (a_cons (j_fd GR hr hg gR FR.kp bR 0 rfl hp (a_1 (v_var (a := ((10 ^ mm : Nat) : Int)) 3 rfl (rs _))) rl) (a_1 (j_neg (j_fd GR hr hg gR FR.kp bR 0 rfl hp (a_1 (v_var (a := ((10 ^ mm : Nat) : Int)) 3 rfl (rs _))) rl)))))) ?_) ?_) scNums.nd fun v H7 d g9 hd r9 => ss_nil ?_)
      · rintro ds ⟨_, _, _, ⟨_, _, _, ⟨_, _, _, ⟨_, _, rfl⟩, rfl⟩, rfl⟩, rfl⟩
        show 4 ≤ sizeLine
        decide
      · rintro ds es rfl ⟨_, _, _, ⟨_, _, _, ⟨_, _, _, ⟨_, _, rfl⟩, rfl⟩, rfl⟩, rfl⟩
        rw [List.length_map]
        show ns.length + 4 ≤ sizeLine
        have : (100 : Nat) ≤ sizeLine := by decide
        omega
      · obtain ⟨ds, es, rfl, ⟨x1, _, rfl, ⟨x2, _, rfl, ⟨x3, _, ⟨_, ⟨_, rfl, rfl⟩, t3, e3, h3, h3'⟩, ⟨x4, ⟨x5, ⟨_, ⟨_, rfl, rfl⟩, t4, e4, h4, h4'⟩, rfl⟩, rfl⟩, rfl⟩, rfl⟩, rfl⟩, rfl⟩ := hd
        cases e3
        cases e4
        refine ⟨((G4.trans g8).trans g9), v, ns ++ [x1, -x1, x3, -x5], some (.int (k : Int)), some (.int ((10 ^ mm : Nat) : Int)), o4', some (.int x1), rfl, ?_, ?_, ?_⟩
        · rw [List.map_append]
          exact r9
        · rw [List.length_append]
          show ns.length + 4 ≤ 1 + 4 * (k + 1)
          omega
        · have b9 : (10 : Nat) ^ 89 < 10 ^ 100 := by decide
          intro n hn
          rcases List.mem_append.mp hn with hn | hn
          · exact bn n hn
          · simp only [List.mem_cons, List.not_mem_nil, or_false] at hn
            rcases hn with rfl | rfl | rfl | rfl
            · exact hnum
            · rw [Int.natAbs_neg]
              exact hnum
            · omega
            · rw [Int.natAbs_neg]
              omega
  · subst eσ en
    refine ss_cons (s_ret g3.dk (v_var (a := PyData.list (ns.map .int)) 1 rfl rf) fun v H4 d g4 ed r4 => ?_)
    subst ed
    exact q v H4 _ (g3.trans g4) ⟨ns, rfl, by omega, bn⟩ r4
end
end K01
set_option Elab.async false
set_option linter.all false
set_option maxRecDepth 100000
set_option maxHeartbeats 8000000
set_option exponentiation.threshold 9000
namespace K01
open PySem PySem.Spec L2 Lp
section
variable {P : Program} {w : World} {K : PySem.W.Frag} {mg : Str → Option Value} {base : Heap}
/-- f(_law_dice(script, spot)) -/
theorem j_onDice {β : Type} [Enc β] {X : Cx} {k1 k2 : Nat} {f fD : Addr} {fd fdD : FuncData} {xf x0 x1 : Str} {qs : List Str} {pf pd p0 p1 q1 q2 : Pos} {σ : L2.St} {H : Hp} {Pre : List PyData → Prop} {R : List PyData → β → Prop}
    (F : FnG X.prog X.w X.K X.mg X.base CX0 k1 f fd qs (spD X.K Pre R)) (FD : FnG X.prog X.w X.K X.mg X.base CX0 k2 fD fdD ["_law_script", "_law_spot"] (spDice X.K)) (hr1 : Room k1 X.A) (hr2 : Room k2 X.A) (hgd : X.A.guards = some [])
    (hm : X.mg xf = some (.ref f)) (hk : PySem.W.keepIn X.K (.ref f) = true) (hb : Binds X.K fd qs []) (hmD : X.mg "_law_dice" = some (.ref fD)) (hkD : PySem.W.keepIn X.K (.ref fD) = true) (hbD : Binds X.K fdD ["_law_script", "_law_spot"] [])
    (i0 i1 : Nat) {a : Addr} {ns : List Int} {k : Nat} (h0 : σ[i0]? = some (some (.ref a))) (h1 : σ[i1]? = some (some (.int (k : Int)))) (hq : SqL X.K H a (ns.map V.int)) (hp : Pre [])
    (hN0 : X.N[i0]? = some x0 := by rfl) (hv0 : Vis X.env.scope x0 := by exact Or.inl rfl) (hN1 : X.N[i1]? = some x1 := by rfl) (hv1 : Vis X.env.scope x1 := by exact Or.inl rfl) (hd0 : (x0 == ("__debug__" : Str)) = false := by decide) (hc0 : (x0 == ("__classdict__" : Str)) = false := by decide)
    (hd1 : (x1 == ("__debug__" : Str)) = false := by decide) (hc1 : (x1 == ("__classdict__" : Str)) = false := by decide) (hg : Gl X xf := by rfl) (hgD : Gl X "_law_dice" := by rfl) (hdb : (xf == ("__debug__" : Str)) = false := by decide)
    (e1 : starEach [.Call (.Name "_law_dice" pd) [.Name x0 p0, .Name x1 p1] [] q1] X.env = (false, eval (.Call (.Name "_law_dice" pd) [.Name x0 p0, .Name x1 p1] [] q1) X.env) :: starEach [] X.env := by rfl) (e2 : (backTo q2 (starEach [] X.env)).any (·.1) = false := by rfl)
    (e3 : starEach [.Name x0 p0, .Name x1 p1] X.env = (false, eval (.Name x0 p0) X.env) :: starEach [.Name x1 p1] X.env := by rfl) (e4 : starEach [.Name x1 p1] X.env = (false, eval (.Name x1 p1) X.env) :: starEach [] X.env := by rfl) (e5 : (backTo q1 (starEach [.Name x1 p1] X.env)).any (·.1) = false := by rfl) :
    JE X no (.Call (.Name xf pf) [.Call (.Name "_law_dice" pd) [.Name x0 p0, .Name x1 p1] [] q1] [] q2) σ H (fun r : β => R [] r) := fun H1 g Q q =>
  of_pe (callG F hr1 hgd hg hm hk hb pass0 (pa_cons (callG FD hr2 hgd hgD hmD hkD hbD pass0 (pa_cons (pv i0 hN0 hv0 hd0 hc0) (pa_cons (pv i1 hN1 hv1 hd1 hc1) pa_nil e4) e3) (by decide) e3 e5) pa_nil e1) hdb e1 e2)
    ⟨_, h0, _, h1, a, ns, k, rfl, sl_ex (fun b o e => g.ex b o (fun z => nomatch z) e) hq, fun u J2 l s c nu ex eu => by
      dsimp only [tNil]
      have dk : DOk ⟨some u, []⟩ J2 := ⟨fun b e => by cases e; exact ⟨l, s, c, eu⟩, fun b m => nomatch m⟩
      refine ⟨u, ⟨some u, []⟩, [], [], rfl, rfl, dk, .nil, hp, fun v J3 b g3 hR rp => ?_⟩
      refine q v J3 b ⟨fun b o _ e => g3.ex b o (fun z => ?_) (ex b o e), dok_none⟩ hR (rp.mono fun b o e => ?_)
      · cases z
        rw [nu] at e
        cases e
      · rw [del_at (fun z : Hid no b => z.elim (fun y => nomatch y) (fun y => nomatch y))]
        exact del_of e⟩
def spLaw (K : PySem.W.Frag) : Sp := fun vs J Q _ => ∃ (a : Addr) (ns : List Int), vs = [.ref a] ∧ SqL K J a (ns.map V.int) ∧ ns.length ≤ 63 ∧ ∀ J', Q (.bl true) J'
theorem iRes (d : PyData) : ∀ r, resI [d] r → r = isI d := fun r ⟨m, e, er⟩ => by cases e; exact er
theorem cRes (d : PyData) : ∀ r, resC [d] r → r = isC d := fun r ⟨m, e, er⟩ => by cases e; exact er
theorem lRes (n : Int) : ∀ r, resL [.int n] r → r = decide (n.natAbs < 10 ^ 60) := fun r ⟨m, e, er⟩ => by cases e; exact er
abbrev nLaw : List Str := ["_law_script", "_law_spot", "_law_numbers_here", "_law_number", "_law_due", "_law_counts", "_law_one", "_law_other", "_law_odd", "_law_value"]
theorem shows_b2 (x y : Bool) : Shows (PyData.list [.bool x, .bool y]) := by
  cases x <;> cases y <;> exact ⟨by decide +kernel, by decide +kernel, by decide +kernel, by decide +kernel⟩
theorem shows_b (x : Bool) : Shows (PyData.bool x) := by
  cases x <;> exact ⟨by decide +kernel, by decide +kernel, by decide +kernel, by decide +kernel⟩
def oddL : List PyData := [.none, .bool true, .bool false, .str "7", .str "", .str "seven", .tuple [.int 7], .list [.int 7], .dict [(.int 7, .int 7)], .tuple [.tuple []]]
theorem odd_no : ∀ d ∈ oddL, isI d = false ∧ isC d = false := by
  intro d h
  unfold oddL at h
  simp only [List.mem_cons, List.not_mem_nil, or_false] at h
  rcases h with rfl | rfl | rfl | rfl | rfl | rfl | rfl | rfl | rfl | rfl <;> exact ⟨rfl, rfl⟩
theorem ok_law {f fN fD fR fP fI fC fL : Addr} {fd fdN fdD fdR fdP fdI fdC fdL : FuncData} (F : Fun K "law" "law" sLaw f fd) (T : TL mg) {t : Tok} (mx : mg "MAX_FIGURES" = some (.int 60 t))
    (FN : Fun K "_law_numbers" "_law_numbers" sNums fN fdN) (bN : Binds K fdN ["_law_dice_here"] []) (gN : mg "_law_numbers" = some (.ref fN))
    (FD : Fun K "_law_dice" "_law_dice" sDice fD fdD) (bD : Binds K fdD ["_law_script", "_law_spot"] []) (gD : mg "_law_dice" = some (.ref fD))
    (FR : Fun K "_law_roll" "_law_roll" sRoll fR fdR) (bR : Binds K fdR ["_law_dice_here", "_law_total"] []) (gR : mg "_law_roll" = some (.ref fR))
    (FP : Fun K "_law_pick" "_law_pick" sPick fP fdP) (bP : Binds K fdP ["_law_dice_here", "_law_items"] []) (gP : mg "_law_pick" = some (.ref fP))
    (FI : Fun K "is_integer" "is_integer" sInt fI fdI) (bI : Binds K fdI ["value"] []) (gI : mg "is_integer" = some (.ref fI))
    (FC : Fun K "is_count" "is_count" sCount fC fdC) (bC : Binds K fdC ["value"] []) (gC : mg "is_count" = some (.ref fC))
    (FL : Fun K "_law_is_let" "_law_is_let" sLet fL fdL) (bL : Binds K fdL ["_law_number"] []) (gL : mg "_law_is_let" = some (.ref fL)) :
    FnG P w K mg base CX0 4 f fd ["_law_script"] (spLaw K) := by
  have GN : FnG P w K mg base CX0 3 fN fdN ["_law_dice_here"] (spD K pre0 resN) := ok_nums FN T FR bR gR FP bP gP
  have GD : FnG P w K mg base CX0 3 fD fdD ["_law_script", "_law_spot"] (spDice K) := (ok_dice FD T.toTD).mono (by decide)
  have GI : FnG P w K mg base CX0 3 fI fdI ["value"] (spF K pre1 resI) := (ok_int FI T).mono (by decide)
  have GC : FnG P w K mg base CX0 3 fC fdC ["value"] (spF K pre1 resC) := (ok_count FC T FI bI gI).mono (by decide)
  have GL : FnG P w K mg base CX0 3 fL fdL ["_law_number"] (spF K preL resL) := (ok_let FL T).mono (by decide)
  refine okN F scLaw (fun vs H Q E h => ?_) (fun cdv B fr s J xs Q Z hr hg h => ⟨_, semSs, ?_⟩)
  · obtain ⟨a, ns, rfl, _⟩ := h
    rfl
  obtain ⟨a, ns, rfl, hS, hl, q⟩ := h
  have hu := hr.units
  have dk : DOk no J := dok_none
  have hQ : SqL K (del no J) a (ns.map V.int) := by
    rw [del_none]
    exact hS
  refine ss_cons (s_forR (P := fun n : Int => 0 ≤ n ∧ n ≤ 4) 1 dk .never rfl scLaw.nd T.range ((v_max rfl (by rfl) T.max v_int (v_min rfl (by rfl) T.min v_int (v_lenQ (by rfl) T.len 0 rfl hQ))).imp fun n e => ?_) (fun n e => by omega)
    (fun _ _ k σ' H' => Go no J H' ∧ ∃ o1 o2 o3 o4 o5 o6 o7 o8 o9 : Option V, σ' = [some (.ref a), o1, o2, o3, o4, o5, o6, o7, o8, o9])
    (fun H1 n g1 _ => ⟨g1, none, none, none, none, none, none, none, none, none, rfl⟩) (fun H1 n k σ' H' g1 hn hk ⟨g2, o1, o2, o3, o4, o5, o6, o7, o8, o9, eσ⟩ => ?_) (fun H1 n σ' H' g1 hn ⟨g2, o1, o2, o3, o4, o5, o6, o7, o8, o9, eσ⟩ => ?_))
  · subst e
    split <;> (try split) <;> omega
  · subst eσ
    -- numbers = _law_numbers(_law_dice(script, spot))
    refine ss_cons (s_set (α := PyData) 2 g2.dk (j_onDice GN GD hr hr hg gN FN.kp bN gD FD.kp bD 0 1 rfl rfl (sl_ex (fun b o e => g2.ex b o (fun z => nomatch z) e) hS) rfl) scLaw.nd fun nv H2 d g3 ⟨ms, ed, lm, bm⟩ r3 => ?_)
    subst ed
    -- for number in numbers
    refine ss_cons (s_forL 3 g3.dk .never rfl scLaw.nd ((v_var (a := PyData.list (ms.map .int)) 2 rfl r3).imp fun d e => ⟨ms.map .int, rfl, e⟩)
      (fun H3 _ k' σ' H' => Go no H3 H' ∧ ∃ o3 o4 : Option V, σ' = [some (.ref a), some (.int (k : Int)), some nv, o3, o4, o5, o6, o7, o8, o9])
      (fun H3 ds g4 _ => ⟨.refl g4.dk, o3, o4, rfl⟩) (fun H3 ds k' σ' H' _ z => z.1) (fun H3 ds k' d v σ' H' g4 eds ek ⟨g5, o3', o4', eσ⟩ rv => ?_) (fun H3 ds σ' H' g4 eds ⟨g5, o3', o4', eσ⟩ => ?_))
    · subst eds eσ
      obtain ⟨n, hn', e⟩ := List.mem_map.mp (List.mem_of_getElem? ek)
      subst e
      have bn := bm n hn'
      have bn2 : n.natAbs < 10 ^ 200 := Nat.lt_of_lt_of_le bn (by decide)
      cases rep_int rv
      have rn : ∀ J1, Rep K (del no J1) (.int n) (enc n) := fun _ => .int n
      obtain ⟨c0, hc0, hc0'⟩ := num_first n
      -- due = [..]
      refine ss_cons (s_set 4 g5.dk (v_list (a_consV (v_fn1 GL hr hg gL FL.kp bL (v_var (a := n) 3 rfl (rn _)) ⟨n, rfl, bn2⟩ (lRes n)) (a_consV (v_and (y := decide (0 ≤ n)) (v_fn1 GL hr hg gL FL.kp bL (v_var (a := n) 3 rfl (rn _)) ⟨n, rfl, bn2⟩ (lRes n))
        (fun _ => v_one ((v_cmp op_ne (v_sign (v_str1 (by rfl) T.str (v_var (a := n) 3 rfl (rn _)) (log_lt bn2 (by decide))) v_int (Nat.le_trans (size_num bn2) (by decide)) hc0) v_str od_neS).to ?_))) a_nil)) (by show 2 ≤ sizeLine; decide)) scLaw.nd fun dv H4 d g6 ed r6 => ?_)
      · by_cases h0 : n < 0
        · rw [hc0'.mpr h0]
          have : decide (0 ≤ n) = false := decide_eq_false (by omega)
          rw [this]
          rfl
        · have e1 : (⟨#[c0]⟩ : Str) ≠ ("-" : Str) := fun e => h0 (hc0'.mp (by
            have := congrArg (fun s : Str => s.cps.toList) e
            exact (List.cons.inj this).1))
          have : decide (0 ≤ n) = true := decide_eq_true (by omega)
          rw [this, decide_eq_false e1]
          rfl
      subst ed
      -- if repr(..) != repr(due)
      refine ss_cons (s_if g6.dk (t_cmp op_ne (v_repr hg hu (by rfl) T.repr (v_list (a_consV (v_fn1 GI hr hg gI FI.kp bI (v_var (a := n) 3 rfl (rn _)) ⟨_, rfl⟩ (iRes (.int n))) (a_consV (v_fn1 GC hr hg gC FC.kp bC (v_var (a := n) 3 rfl (rn _)) ⟨_, rfl⟩ (cRes (.int n))) a_nil)) (by show 2 ≤ sizeLine; decide)) (shows_b2 _ _))
        (v_repr hg hu (by rfl) T.repr (v_var (a := PyData.list [.bool _, .bool _]) 4 rfl r6) (shows_b2 _ _)) od_neS) (fun H5 g7 e => ?_) (fun H5 g7 e => ss_nil (ss_nil ⟨(g5.trans g6).trans g7, _, _, rfl⟩)))
      · exfalso
        have e2 : (!decide (PyData.shown (.list [.bool (isI (.int n)), .bool (isC (.int n))]) = PyData.shown (.list [.bool (decide (n.natAbs < 10 ^ 60)), .bool (decide (n.natAbs < 10 ^ 60) && decide (0 ≤ n))]))) = true := e.symm
        rw [show isI (.int n) = decide (n.natAbs < 10 ^ 60) from rfl, show isC (.int n) = (decide (n.natAbs < 10 ^ 60) && decide (0 ≤ n)) from rfl, decide_eq_true rfl] at e2
        cases e2
    · subst eds eσ
      have rN := r3.go (g4.trans g5)
      have lm' : (ms.map PyData.int).length ≤ sizeLine := by
        rw [List.length_map]
        have : (100 : Nat) ≤ sizeLine := by decide
        omega
      -- counts = [number for number in numbers if is_count(number)]
      refine ss_cons (s_setLc (P := fun ds => ds = ms.map .int) (f := isC) (g := fun d => d) 3 5 g5.dk rfl scLaw.nd ((v_var (a := PyData.list (ms.map .int)) 2 rfl rN).imp fun d e => ⟨ms.map .int, rfl, e⟩) (fun ds e => by rw [e]; exact lm') (blkOk_by (N := nLaw) (sc := defScope sLaw) (by decide +kernel))
        (fun ds d v J1 q1 _ md gs rd s2 J2 C cl fp => t_call (v_fn1 GC hr hg gC FC.kp bC (v_var (a := d) 3 rfl rd) ⟨_, rfl⟩ (cRes d))) (fun ds d v J1 q1 _ md _ gs rd s2 J2 C cl fp => v_var (a := d) 3 rfl rd) (fun cv H4 ds g6 ed r6 => ?_) (sw_true rfl rfl rfl (by decide +kernel)))
      subst ed
      generalize hcs : ((ms.map PyData.int).filter isC).map (fun d => d) = cs at r6
      have hcs' : ∀ d ∈ cs, ∃ n : Int, d = .int n ∧ 0 ≤ n ∧ n.natAbs < 10 ^ 100 := fun d hd => by
        rw [← hcs, List.map_id'] at hd
        obtain ⟨h1, h2⟩ := List.mem_filter.mp hd
        obtain ⟨n, h3, rfl⟩ := List.mem_map.mp h1
        refine ⟨n, rfl, ?_, bm n h3⟩
        have h4 : (decide (n.natAbs < 10 ^ 60) && decide (0 ≤ n)) = true := h2
        rw [Bool.and_eq_true, decide_eq_true_eq, decide_eq_true_eq] at h4
        exact h4.2
      -- for one, other in zip(counts, counts[::-1])
      refine ss_cons (s_forZ 6 7 g6.dk .never rfl scLaw.nd T.zip (v_var (a := PyData.list cs) 5 rfl r6) (v_rev (v_var (a := PyData.list cs) 5 rfl r6)) (List.length_reverse ..).symm
        (fun H5 k' σ' H' => Go no H5 H' ∧ ∃ o6 o7 : Option V, σ' = [some (.ref a), some (.int (k : Int)), some nv, o3', o4', some cv, o6, o7, o8, o9])
        (fun H5 g7 => ⟨.refl g7.dk, o6, o7, rfl⟩) (fun H5 k' σ' H' _ z => z.1) (fun H5 k' d d2 v v2 σ' H' H6 g7 e1 e2 ⟨g8, o6', o7', eσ⟩ g9 r9 r9' => ?_) (fun H5 σ' H' g7 ⟨g8, o6', o7', eσ⟩ => ?_))
      · subst eσ
        obtain ⟨x, rfl, x0, xb⟩ := hcs' d (List.mem_of_getElem? e1)
        obtain ⟨y, rfl, y0, yb⟩ := hcs' d2 (List.mem_reverse.mp (List.mem_of_getElem? e2))
        cases rep_int r9
        cases rep_int r9'
        have sb : (x + y).natAbs < 10 ^ 200 := by
          have h1 : (10 : Nat) ^ 100 + 10 ^ 100 ≤ 10 ^ 200 := by decide
          omega
        have rx : ∀ J1, Rep K (del no J1) (.int x) (enc x) := fun _ => .int x
        have ry : ∀ J1, Rep K (del no J1) (.int y) (enc y) := fun _ => .int y
        refine ss_cons (s_if g9.dk (t_cmp op_ne (v_repr hg hu (by rfl) T.repr (v_fn1 GC hr hg gC FC.kp bC (v_add (v_var (a := x) 6 rfl (rx _)) (v_var (a := y) 7 rfl (ry _))) ⟨_, rfl⟩ (cRes (.int (x + y)))) (shows_b _))
          (v_repr hg hu (by rfl) T.repr (v_fn1 GL hr hg gL FL.kp bL (v_add (v_var (a := x) 6 rfl (rx _)) (v_var (a := y) 7 rfl (ry _))) ⟨_, rfl, sb⟩ (lRes (x + y))) (shows_b _)) od_neS) (fun H7 g10 e => ?_) (fun H7 g10 e => ss_nil (ss_nil ⟨(g8.trans g9).trans g10, _, _, rfl⟩)))
        · exfalso
          have e2 : (!decide (PyData.shown (.bool (isC (.int (x + y)))) = PyData.shown (.bool (decide ((x + y).natAbs < 10 ^ 60))))) = true := e.symm
          have e3 : isC (.int (x + y)) = decide ((x + y).natAbs < 10 ^ 60) := by
            show (decide ((x + y).natAbs < 10 ^ 60) && decide (0 ≤ x + y)) = _
            rw [decide_eq_true (show 0 ≤ x + y by omega), Bool.and_true]
          rw [e3, decide_eq_true rfl] at e2
          cases e2
      · subst eσ
        exact ss_nil ⟨((((g2.trans g3).trans g4).trans g5).trans g6).trans (g7.trans g8), _, _, _, _, _, _, _, _, _, rfl⟩
  · subst eσ
    -- odd = [..]
    refine ss_cons (s_set (P := fun d : PyData => d = .list oddL) 8 g2.dk (v_list (a_consV v_none (a_consV v_bool (a_consV v_bool (a_consV v_str (a_consV v_str (a_consV v_str (a_consV (v_tuple (a_consV v_int a_nil) (by show 1 ≤ sizeLine; decide)) (a_consV (v_list (a_consV v_int a_nil) (by show 1 ≤ sizeLine; decide))
      (a_consV (v_dict1 (k := .inl 7) pe_int fun _ _ _ _ => v_int) (a_consV (v_tuple (a_consV (v_tuple a_nil (by show 0 ≤ sizeLine; decide)) a_nil) (by show 1 ≤ sizeLine; decide)) a_nil)))))))))) (by show 10 ≤ sizeLine; decide)) scLaw.nd fun ov H2 d g3 ed r3 => ?_)
    subst ed
    refine ss_cons (s_ret g3.dk (v_and (x := decide ((60 : Int) = 60)) (y := true) (v_cmp op_eq (v_glob (a := (60 : Int)) (by rfl) mx (show RelV (.int 60) _ from ⟨t, rfl⟩) (fun _ => .int 60)) v_int od_eqI)
      (fun _ => v_one ((v_cmp (op_eqD hu) (JE.imp (P' := fun d : PyData => d = .list []) (j_lc (P := fun ds => ds = oddL) (f := fun d => isI d || isC d) (g := fun d => d) 9 rfl scLaw.nd ((v_var (a := PyData.list oddL) 8 rfl r3).imp fun d e => ⟨oddL, rfl, e⟩) (fun ds e => by rw [e]; show 10 ≤ sizeLine; decide) (blkOk_by (N := nLaw) (sc := defScope sLaw) (by decide +kernel))
        (fun ds d v J1 q1 _ md gs rd s2 J2 C cl fp => t_or (t_call (v_fn1 GI hr hg gI FI.kp bI (v_var (a := d) 9 rfl rd) ⟨_, rfl⟩ (iRes d))) fun _ => t_call (v_fn1 GC hr hg gC FC.kp bC (v_var (a := d) 9 rfl rd) ⟨_, rfl⟩ (cRes d))) (fun ds d v J1 q1 _ md _ gs rd s2 J2 C cl fp => v_var (a := d) 9 rfl rd)) ?_)
        (v_list a_nil (by decide)) (od_eqD (by decide +kernel) (by decide +kernel))).to (by decide +kernel)))) fun v H3 r g4 er r4 => ?_)
    · rintro d ⟨ds, rfl, rfl⟩
      rfl
    · rw [er] at r4
      cases rep_bool r4
      exact q H3
end
end K01
set_option Elab.async false
set_option linter.all false
set_option maxRecDepth 100000
set_option maxHeartbeats 4000000
set_option exponentiation.threshold 9000
namespace K01
open PySem PySem.Spec L2 Lp PyProof.Rows
theorem all_mk {l : PySem.W.OpenLaw} {w : World} {K : PySem.W.Frag} {h : Heap} {mg : Str → Option Value} {fa f0 f1 f2 f3 f4 f5 f6 f7 : Addr} (X : K.In h) (G : h.Ns mainGlobals mg) (hfa : mg "law" = some (.ref fa))
    {od0 an0 od1 an1 od2 an2 od3 an3 od4 an4 od5 an5 od6 an6 od7 an7 : Option Addr} {sl0 sl1 sl2 sl3 sl4 sl5 sl6 sl7 : Array (Option Value)} {oc0 kV0 dc0 pm0 cd0 ct0 oc1 kV1 dc1 pm1 cd1 ct1 oc2 kV2 dc2 pm2 cd2 ct2 oc3 kV3 dc3 pm3 cd3 ct3 oc4 kV4 dc4 pm4 cd4 ct4 oc5 kV5 dc5 pm5 cd5 ct5 oc6 kV6 dc6 pm6 cd6 ct6 oc7 kV7 dc7 pm7 cd7 ct7 : Value}
    (a0 : PySem.W.nsIn K mainGlobals "is_integer" = some (some (.ref f0))) (l0 : K.lookup f0 = some ⟨oc0, od0, .func (PySem.W.fnOf "is_integer" "is_integer" (defArgs sInt) (defBody sInt) (defScope sInt) .none kV0 dc0 pm0 an0 cd0 ct0), sl0⟩) (c0 : PySem.W.codeIn K cd0 "is_integer" = true) (k0 : PySem.W.keepIn K (.ref f0) = true)
    (a1 : PySem.W.nsIn K mainGlobals "is_count" = some (some (.ref f1))) (l1 : K.lookup f1 = some ⟨oc1, od1, .func (PySem.W.fnOf "is_count" "is_count" (defArgs sCount) (defBody sCount) (defScope sCount) .none kV1 dc1 pm1 an1 cd1 ct1), sl1⟩) (c1 : PySem.W.codeIn K cd1 "is_count" = true) (k1 : PySem.W.keepIn K (.ref f1) = true)
    (a2 : PySem.W.nsIn K mainGlobals "_law_dice" = some (some (.ref f2))) (l2 : K.lookup f2 = some ⟨oc2, od2, .func (PySem.W.fnOf "_law_dice" "_law_dice" (defArgs sDice) (defBody sDice) (defScope sDice) .none kV2 dc2 pm2 an2 cd2 ct2), sl2⟩) (c2 : PySem.W.codeIn K cd2 "_law_dice" = true) (k2 : PySem.W.keepIn K (.ref f2) = true)
    (a3 : PySem.W.nsIn K mainGlobals "_law_roll" = some (some (.ref f3))) (l3 : K.lookup f3 = some ⟨oc3, od3, .func (PySem.W.fnOf "_law_roll" "_law_roll" (defArgs sRoll) (defBody sRoll) (defScope sRoll) .none kV3 dc3 pm3 an3 cd3 ct3), sl3⟩) (c3 : PySem.W.codeIn K cd3 "_law_roll" = true) (k3 : PySem.W.keepIn K (.ref f3) = true)
    (a4 : PySem.W.nsIn K mainGlobals "_law_pick" = some (some (.ref f4))) (l4 : K.lookup f4 = some ⟨oc4, od4, .func (PySem.W.fnOf "_law_pick" "_law_pick" (defArgs sPick) (defBody sPick) (defScope sPick) .none kV4 dc4 pm4 an4 cd4 ct4), sl4⟩) (c4 : PySem.W.codeIn K cd4 "_law_pick" = true) (k4 : PySem.W.keepIn K (.ref f4) = true)
    (a5 : PySem.W.nsIn K mainGlobals "_law_numbers" = some (some (.ref f5))) (l5 : K.lookup f5 = some ⟨oc5, od5, .func (PySem.W.fnOf "_law_numbers" "_law_numbers" (defArgs sNums) (defBody sNums) (defScope sNums) .none kV5 dc5 pm5 an5 cd5 ct5), sl5⟩) (c5 : PySem.W.codeIn K cd5 "_law_numbers" = true) (k5 : PySem.W.keepIn K (.ref f5) = true)
    (a6 : PySem.W.nsIn K mainGlobals "_law_is_let" = some (some (.ref f6))) (l6 : K.lookup f6 = some ⟨oc6, od6, .func (PySem.W.fnOf "_law_is_let" "_law_is_let" (defArgs sLet) (defBody sLet) (defScope sLet) .none kV6 dc6 pm6 an6 cd6 ct6), sl6⟩) (c6 : PySem.W.codeIn K cd6 "_law_is_let" = true) (k6 : PySem.W.keepIn K (.ref f6) = true)
    (a7 : PySem.W.nsIn K mainGlobals "law" = some (some (.ref f7))) (l7 : K.lookup f7 = some ⟨oc7, od7, .func (PySem.W.fnOf "law" "law" (defArgs sLaw) (defBody sLaw) (defScope sLaw) .none kV7 dc7 pm7 an7 cd7 ct7), sl7⟩) (c7 : PySem.W.codeIn K cd7 "law" = true) (k7 : PySem.W.keepIn K (.ref f7) = true)
    (z0 : PySem.W.nsIn K mainGlobals "len" = some none)
    (z1 : PySem.W.nsIn K mainGlobals "int" = some none)
    (z2 : PySem.W.nsIn K mainGlobals "abs" = some none)
    (z3 : PySem.W.nsIn K mainGlobals "max" = some none)
    (z4 : PySem.W.nsIn K mainGlobals "min" = some none)
    (z5 : PySem.W.nsIn K mainGlobals "range" = some none)
    (z6 : PySem.W.nsIn K mainGlobals "isinstance" = some none)
    (z7 : PySem.W.nsIn K mainGlobals "bool" = some none)
    (z8 : PySem.W.nsIn K mainGlobals "str" = some none)
    (z9 : PySem.W.nsIn K mainGlobals "repr" = some none)
    (z10 : PySem.W.nsIn K mainGlobals "zip" = some none)
    {t0 : Tok} (m0 : PySem.W.nsIn K mainGlobals "MAX_FIGURES" = some (some (.int 60 t0)))
    : ∃ fd : FuncData, (∀ (s : Shared) (v : Value), BindsTo s fd ⟨[v], []⟩ [("_law_script", v)]) ∧ ∀ base : Heap, K.In base → base.Ns mainGlobals mg → FnG l.prog w K mg base CX0 4 fa fd ["_law_script"] (spLaw K) := by
  have e := hfa.symm.trans (PySem.W.mg_of X G a7)
  cases e
  have F0 := fun_mk (st := sInt) l0 c0 k0
  have b0 := F0.binds (ps := ["value"]) fun _ _ _ _ _ _ us hl => match us, hl with | [_], _ => rfl
  have F1 := fun_mk (st := sCount) l1 c1 k1
  have b1 := F1.binds (ps := ["value"]) fun _ _ _ _ _ _ us hl => match us, hl with | [_], _ => rfl
  have F2 := fun_mk (st := sDice) l2 c2 k2
  have b2 := F2.binds (ps := ["_law_script", "_law_spot"]) fun _ _ _ _ _ _ us hl => match us, hl with | [_, _], _ => rfl
  have F3 := fun_mk (st := sRoll) l3 c3 k3
  have b3 := F3.binds (ps := ["_law_dice_here", "_law_total"]) fun _ _ _ _ _ _ us hl => match us, hl with | [_, _], _ => rfl
  have F4 := fun_mk (st := sPick) l4 c4 k4
  have b4 := F4.binds (ps := ["_law_dice_here", "_law_items"]) fun _ _ _ _ _ _ us hl => match us, hl with | [_, _], _ => rfl
  have F5 := fun_mk (st := sNums) l5 c5 k5
  have b5 := F5.binds (ps := ["_law_dice_here"]) fun _ _ _ _ _ _ us hl => match us, hl with | [_], _ => rfl
  have F6 := fun_mk (st := sLet) l6 c6 k6
  have b6 := F6.binds (ps := ["_law_number"]) fun _ _ _ _ _ _ us hl => match us, hl with | [_], _ => rfl
  have F7 := fun_mk (st := sLaw) l7 c7 k7
  exact ⟨PySem.W.fnOf "law" "law" (defArgs sLaw) (defBody sLaw) (defScope sLaw) .none kV7 dc7 pm7 an7 cd7 ct7, fun s v => .of_eq rfl, fun base _ _ => ok_law F7 ⟨⟨PySem.W.mg_none_of X G z0, PySem.W.mg_none_of X G z1, PySem.W.mg_none_of X G z2, PySem.W.mg_none_of X G z3, PySem.W.mg_none_of X G z4, PySem.W.mg_none_of X G z5⟩, PySem.W.mg_none_of X G z6, PySem.W.mg_none_of X G z7, PySem.W.mg_none_of X G z8, PySem.W.mg_none_of X G z9, PySem.W.mg_none_of X G z10⟩ (PySem.W.mg_of X G m0) F5 b5 (PySem.W.mg_of X G a5) F2 b2 (PySem.W.mg_of X G a2) F3 b3 (PySem.W.mg_of X G a3) F4 b4 (PySem.W.mg_of X G a4) F0 b0 (PySem.W.mg_of X G a0) F1 b1 (PySem.W.mg_of X G a1) F6 b6 (PySem.W.mg_of X G a6)⟩
end K01
open PySem PySem.W PyProof.Rows
set_option maxHeartbeats 0 in
theorem PySem.Challenge.cw_lastprices_k01_whole_integers_by_their_f_holds : PySem.Challenge.rw_lastprices_k01_whole_integers_by_their_f.Holds := by
  w_on; o_law; k_head; (case hw => w_witness2)
  k_fill
  refine Lp.walkG (l := PySem.Challenge.rw_lastprices_k01_whole_integers_by_their_f) (n := 63) (k := 4) (x := "_law_script") (CX := fun _ => L2.CX0) (sp := fun w => K01.spLaw _) rfl (by decide) rfl ⟨rfl, by decide, by decide⟩ (fun w h Y => PySem.W.kIn_of Y) ?F (fun _ _ a ns hl _ hS => ⟨a, ns, rfl, hS, hl, fun _ => rfl⟩) (fun _ _ _ _ _ h => h)
  case F =>
    intro w mg fa h KX G hmg
    refine' K01.all_mk KX G hmg ?a0 ?l0 ?c0 ?k0 ?a1 ?l1 ?c1 ?k1 ?a2 ?l2 ?c2 ?k2 ?a3 ?l3 ?c3 ?k3 ?a4 ?l4 ?c4 ?k4 ?a5 ?l5 ?c5 ?k5 ?a6 ?l6 ?c6 ?k6 ?a7 ?l7 ?c7 ?k7 ?z0 ?z1 ?z2 ?z3 ?z4 ?z5 ?z6 ?z7 ?z8 ?z9 ?z10 ?m0
    (case a0 => k_is)
    (case l0 => k_is)
    (case c0 => k_is)
    (case k0 => k_is)
    (case a1 => k_is)
    (case l1 => k_is)
    (case c1 => k_is)
    (case k1 => k_is)
    (case a2 => k_is)
    (case l2 => k_is)
    (case c2 => k_is)
    (case k2 => k_is)
    (case a3 => k_is)
    (case l3 => k_is)
    (case c3 => k_is)
    (case k3 => k_is)
    (case a4 => k_is)
    (case l4 => k_is)
    (case c4 => k_is)
    (case k4 => k_is)
    (case a5 => k_is)
    (case l5 => k_is)
    (case c5 => k_is)
    (case k5 => k_is)
    (case a6 => k_is)
    (case l6 => k_is)
    (case c6 => k_is)
    (case k6 => k_is)
    (case a7 => k_is)
    (case l7 => k_is)
    (case c7 => k_is)
    (case k7 => k_is)
    (case z0 => k_is)
    (case z1 => k_is)
    (case z2 => k_is)
    (case z3 => k_is)
    (case z4 => k_is)
    (case z5 => k_is)
    (case z6 => k_is)
    (case z7 => k_is)
    (case z8 => k_is)
    (case z9 => k_is)
    (case z10 => k_is)
    (case m0 => k_is)

