import PyProof.Rows.All
import Wide.All
import OpenK.AllK
import Wide.FinOn
import HandS.ForMost
import HandS.Wide
import HandS.IsInst
import HandS.TupAny
import HandS.EndBits
import HandS.Style
import PyProof.StrLawsRepr
import HandS.TupMul
import HandS.Zip
import HandS.Walk
import PyProof.WalksMore
import KE.GoesMore
import KE.KStar
import PyProof.MeetsSeq2
import KE.GoesZip
import PySem.Challenge.RW_fullrooms_k05_places_and_things
set_option Elab.async false
set_option linter.all false
set_option maxRecDepth 100000
namespace Fr
open PySem PySem.Spec PyProof.Rows L2

/-! a def's promise while nothing is being shown further out -/
structure FnG (P : Program) (w : World) (K : PySem.W.Frag) (mg : Str → Option Value)
    (base : Heap) (k : Nat) (f : Addr) (fd : FuncData) (ps : List Str) (sp : Sp) : Prop where
  len : ∀ vs H Q E, sp vs H Q E → vs.length = ps.length
  run : ∀ (B : Around) (fs : List Env) (st : Shared) (H : Hp) (ar : Args) (us : List Value)
    (vs : List V) (Q : VK) (E : XK), B.guards = some [] → Room k B →
    Env0 P w K mg base B fs st H → BindsTo st fd ar (ps.zip us) → Vals vs us → sp vs H Q E →
    codeAny (model P w) B (.call (.ref f) ar) (CR CX0 fs P w H st Q E) st

section
variable {P : Program} {w : World} {K : PySem.W.Frag} {mg : Str → Option Value} {base : Heap}
theorem okG {x qual : Str} {st : Stmt} {f : Addr} {fd : FuncData} {N ps : List Str} {k : Nat} {sp : Sp}
    (F : Fun K x qual st f fd) (S : FnScope N ps (defScope st))
    (ln : ∀ vs H Q E, sp vs H Q E → vs.length = ps.length)
    (bd : ∀ (cdv : Value) (B : Around) (fs : List Env) (s0 : Shared) (H : Hp) (vs : List V) (Q : VK) (E : XK),
      B.guards = some [] → Room k (B.deeper (envOfC qual (defScope st) s0.heap.objs.size f cdv)) → sp vs H Q E →
      ∃ t, PSs (cxOf CX0 P w K mg base N qual (defScope st) f cdv B fs s0 H E).nox (defBody st) t ∧
        t { nx := fun _ H' => Q .non H', rt := Q } (start N vs) H) : FnG P w K mg base (k + 1) f fd ps sp := by
  obtain ⟨oc, od, kV, doc, pm, an, cdv, ct, osl, rfl, lk, hcd⟩ := F.ex
  refine ⟨ln, fun B fs s0 H ar us vs Q E gd hr e0 hb r hsp => ?_⟩
  have inh : K.In s0.heap := e0.mod.kin.keeps fun b o e => (e0.bs b o e).1
  have kinds : ∀ y ∈ ps.zip us, (defScope st).names.lookup y.1 = some .local ∨
      ((defScope st).names.lookup y.1 = some .cell ∧
        ((cellsFrom (s0.heap.objs.size + 1) (defScope st).names []).lookup y.1).isSome = true) := by
    rintro ⟨n, v⟩ hy
    exact (S.par n (List.of_mem_zip hy).1).imp id fun q => ⟨q, PySem.W.cellsFrom_some _ _ _ (.inl q)⟩
  refine codeAny_call_function hr.depth (inh _ _ lk) rfl S.co S.gen rfl
    (PySem.W.codeRec_of inh hcd) (hb _ _ _ _ ?_)
  refine wpAny_newFunctionEnv_cells S.kind kinds fun env he s1 xx => ?_
  subst he
  refine ⟨(e0.mod.nolimit.keeps fun b o e => (e0.bs b o e).1).keeps xx.toInCall.keep, codeAny_func ?_⟩
  obtain ⟨t, ht, tq⟩ := bd cdv B fs s0 H vs Q E gd (hr.deeper _) hsp
  have II := inv_start (CX := CX0) (E := E) (qual := qual) (f := f) (cd := cdv) S hr.hd e0 (ln _ _ _ _ hsp) r xx
  refine wpAny_mono ((PSs.nox ht).run [] s1 (start N vs) H _ II tq) (fun fl s2 hs => ?_) fun e s2 hs => hs
  match fl, hs with
  | .ret u, ⟨v, _, H', J, rv, q⟩ => exact ⟨v, H', J.os, J.bare, J.base, J.hok, rv, q⟩
  | .next, ⟨_, H', J, q⟩ => exact ⟨V.non, H', J.os, J.bare, J.base, J.hok, rfl, q⟩
  | .brk, ⟨_, _, _, q⟩ => exact q.elim
  | .cont, ⟨_, _, _, q⟩ => exact q.elim
end

section
variable {X : Cx} {k : Nat} {f : Addr} {fd : FuncData} {ps : List Str} {sp : Sp} {E : XK}
  {x : Str} {p pos : Pos} {e : Expr} {es : List Expr} {t : TA}
theorem pe_callG (F : FnG X.prog X.w X.K X.mg X.base k f fd ps sp) (gd : X.A.guards = some [])
    (hr : Room k X.A) (hg : Gl X x) (hm : X.mg x = some (.ref f)) (hk : PySem.W.keepIn X.K (.ref f) = true)
    (hb : Binds X.K fd ps []) (ha : PA X (e :: es) t) (hdb : (x == ("__debug__" : Str)) = false := by decide)
    (he : starEach (e :: es) X.env = (false, eval e X.env) :: starEach es X.env := by rfl)
    (hpl : (backTo pos (starEach es X.env)).any (·.1) = false := by rfl) :
    PE X (.Call (.Name x p) (e :: es) [] pos) (tCall sp [] E0 t) := by
  refine ⟨fun pins s σ H Q I h => wpAny_Call_Name_kw (ld_glob I hg hm ?_ hdb)⟩
  refine PySem.W.callWith_K (h₀ := X.base) I.ok.mod.kin hk
    (thn (ha.run pos pins s σ H _ I h) fun us s1 ⟨vs, H1, I1, r, q⟩ => ⟨I1.kIn, ?_⟩) he hpl
  have q2 : sp vs H1 Q E0 := by
    have q1 : sp (vs ++ []) H1 Q E0 := q
    rwa [List.append_nil] at q1
  have hl : us.length = ps.length := by rw [← r.length]; exact F.len _ _ _ _ q2
  have hb1 := hb s1 us I1.kIn (by rw [List.append_nil]; exact hl)
  rw [List.append_nil] at hb1
  refine wpAny_call (codeAny_mono (F.run X.A X.stack s1 H1 ⟨us, []⟩ us vs Q E0 gd hr I1.env0 hb1 r q2) fun rr s2 hq => ?_)
  match rr, hq with
  | .error _, hq => exact (show False from hq).elim
  | .ok (.ret u), hq => exact I1.after hq
end

/-! the end of a law, at the caller's own place -/
theorem law_callG {P : Program} {w : World} {K : PySem.W.Frag} {mg mb : Str → Option Value} {k : Nat} {fa a : Addr}
    {fd : FuncData} {x : Str} {sp : Sp} {s1 : Shared} {vs : List Value} {ns : List Int}
    (KX : K.In s1.heap) (hns : s1.heap.Ns mainGlobals mg) (hb : s1.heap.Ns builtinsNs mb)
    (hbb : ∀ x : Str, x ≠ "__name__" → mb x = bootBuiltins x) (hlim : s1.heap.NoLimit) (hg : s1.gens = #[])
    (ha : s1.heap.get? a = some { cls := .type "list", data := .seq vs.toArray }) (hi : IntsAre vs ns)
    (hl : ns.length ≤ sizeLine) (hr : Room k callerA)
    (F : ∀ base : Heap, K.In base → base.Ns mainGlobals mg → FnG P w K mg base k fa fd [x] sp)
    (hbind : ∀ (s : Shared) (u : Value), BindsTo s fd ⟨[u], []⟩ [(x, u)])
    (hsp : ∀ H : Hp, Only H → SqL K H a (ns.map V.int) → sp [.ref a] H (fun v _ => v = .bl true) E0) :
    codeAny (model P w) callerA (.call (.ref fa) ⟨[.ref a], []⟩)
      (fun r s' => r = .ok (.ret (.bool true)) ∧ OldK s1.heap s'.heap ∧ s'.os = s1.os ∧ AllBare s'.gens) s1 := by
  have main : ∀ H : Hp, Only H → SqL K H a (ns.map V.int) → HOk P w H s1.heap → (∀ b, H b ≠ none → b = a) →
      (∀ b o, K.lookup b = some o → H b = none) → codeAny (model P w) callerA (.call (.ref fa) ⟨[.ref a], []⟩)
      (fun r s' => r = .ok (.ret (.bool true)) ∧ OldK s1.heap s'.heap ∧ s'.os = s1.os ∧ AllBare s'.gens) s1 := by
    intro H only sq hok at_a offK
    have dic : ∀ {b : Addr} {m : Str → Option Value}, s1.heap.Ns b m → (hidT s1.heap H).Ns b m := by
      rintro b m ⟨o, es, ep, e, dd, r⟩
      refine ⟨o, es, ep, hidT_get e ?_, dd, r⟩
      cases q : H b with
      | none => rfl
      | some u =>
        exfalso
        have z := at_a b (by rw [q]; exact Option.some_ne_none _)
        rw [z, ha] at e
        injection e with e
        rw [← e] at dd
        exact nomatch dd
    have kin : K.In (hidT s1.heap H) := fun b o e => hidT_get (KX b o e) (offK b o e)
    obtain ⟨mc, c1, c2⟩ := hlim
    have md : Mod K mg (hidT s1.heap H) := ⟨kin, dic hns, ⟨mb, dic hb, hbb⟩, ⟨mc, dic c1, c2⟩⟩
    have ev : Env0 P w K mg (hidT s1.heap H) callerA [] s1 H :=
      ⟨rfl, md, fun b o e => of_hidT e, Nat.le_of_eq (hidT_size _ _), trivial,
        (fun b q => (List.not_mem_nil (show b ∈ ([] : List Addr) from q)).elim), hok, AllBare.of_eq hg⟩
    have done := (F _ kin (dic hns)).run callerA [] s1 H ⟨[.ref a], []⟩ [.ref a] [.ref a] _ _ rfl hr ev
      (hbind s1 (.ref a)) (.cons rfl .nil) (hsp H only sq)
    refine codeAny_mono done fun r s2 h => ?_
    match r, h with
    | .error _, h => exact (show False from h).elim
    | .ok (.ret u), ⟨v, H', os, bare, un, hok', rv, q⟩ =>
      have q' : v = .bl true := q
      subst q'
      have hu : u = Value.bool true := rv
      subst hu
      refine ⟨rfl, OldK.of_keep fun b o e => ?_, os, bare⟩
      rcases only b with z | ⟨ob, xs, z⟩
      · exact un.keep b o e z (fun z => (List.not_mem_nil (show b ∈ ([] : List Addr) from z)).elim) (List.not_mem_nil)
      · have e1 := (hok b _ z).1
        have e2 := (hok' b _ (un.frzs b ob _ z)).1
        rw [e] at e1
        injection e1 with e1
        rw [e1]
        exact e2
  have rv := vals_ints hi
  have lenV := hi.length
  by_cases hk : ∃ o, K.lookup a = some o
  · obtain ⟨o, hk⟩ := hk
    have e := KX a o hk
    rw [ha] at e
    injection e with e
    subst e
    refine main (fun _ => none) (fun _ => .inl rfl) (.inr ⟨_, vs.toArray, _, hk, rfl, rfl, rfl, ?_, ?_⟩) (fun b u z => nomatch z)
      (fun b z => absurd rfl z) fun b o _ => rfl
    · rw [List.size_toArray, lenV]
      exact hl
    · simpa using rv
  · have em : (upd (fun _ => none) a (.frz { cls := .type "list", data := .seq vs.toArray } (.lst (ns.map V.int)))) a = _ := upd_same
    refine main (upd (fun _ => none) a (.frz { cls := .type "list", data := .seq vs.toArray } (.lst (ns.map V.int)))) (fun b => ?_)
      (.inl (.inr ⟨_, em⟩)) (fun b u z => ?_) (fun b z => ?_) fun b o z => ?_
    · by_cases q : b = a
      · exact .inr ⟨_, _, by rw [q]; exact em⟩
      · exact .inl (by rw [upd_ne q])
    · by_cases q : b = a
      · subst q
        rw [em] at z
        injection z with z
        subst z
        exact ⟨ha, by rw [List.length_map]; exact hl, vs, _, rv, ha⟩
      · rw [upd_ne q] at z
        cases z
    · by_cases q : b = a
      · exact q
      · rw [upd_ne q] at z
        exact absurd rfl z
    · by_cases q : b = a
      · exact absurd ⟨o, q ▸ z⟩ hk
      · rw [upd_ne q]

theorem walkG {l : PySem.W.OpenLaw} {n k : Nat} {q : Program} {loose : List Str}
    {XP : (Str → Option Value) → Heap → Prop} {YP : World → Heap → Prop} {d : DefRec} {K : Params → PySem.W.Frag}
    {sp : World → Sp} {x : Str} (hn : l.most = some n) (hn2 : n ≤ sizeLine) (hdf : d.params.defaults = [])
    (hr : Room k callerA) (hY : ∀ (w : World) (h : Heap), YP w h → (K w.params).In h)
    (F : ∀ (w : World) (mg : Str → Option Value) (fa : Addr) (h : Heap), (K w.params).In h → h.Ns mainGlobals mg →
      mg d.name = some (.ref fa) → ∃ fd : FuncData, (∀ (s : Shared) (u : Value), BindsTo s fd ⟨[u], []⟩ [(x, u)]) ∧
        ∀ base : Heap, (K w.params).In base → base.Ns mainGlobals mg → FnG l.prog w (K w.params) mg base k fa fd [x] (sp w))
    (hsp : ∀ (w : World) (H : Hp) (a : Addr) (ns : List Int), ns.length ≤ n → Only H →
      SqL (K w.params) H a (ns.map V.int) → sp w [.ref a] H (fun v _ => v = .bl true) E0) :
    PySem.W.WalkO q loose XP YP l.row.toRowW d [] (fun f vs => PySem.call f vs) := by
  refine Att.attach_call hn hdf fun w s0 s1 mg mb fa o pm cd doc a vs ns G Y ho hd hcd hmg hobj hints hlen hg => ?_
  obtain ⟨fd, hb, hF⟩ := F w mg fa _ (hY w _ Y) G.T.g hmg
  exact law_callG (hY w _ Y) G.T.g G.T.b G.T.builtins G.T.nolimit hg hobj hints (Nat.le_trans hlen hn2) hr hF hb
    fun H hO hS => hsp w H a ns hlen hO hS
end Fr

set_option Elab.async false
set_option linter.all false
set_option maxRecDepth 100000
namespace Fr
open PySem PySem.Spec PyProof.Rows L2

/-! the deck: a list at d of two lists (at a, at b.b) and a count; b.l: a list of the caller's own beside it, if any -/
structure Sd where
  b : Addr
  l : Option Addr
def Ow (d a : Addr) (b : Sd) (x : Addr) : Prop := x = d ∨ x = a ∨ x = b.b
def Own (d a : Addr) (b : Sd) (x : Addr) : Prop := Ow d a b x ∨ b.l = some x
theorem off {d a : Addr} {b : Sd} {x : Addr} (h : ¬ Own d a b x) : ¬ Ow d a b x := fun z => h (.inl z)
/-- all but the deck is as it was -/
structure Kp (d a : Addr) (b : Sd) (H H' : Hp) : Prop where
  run : ∀ x o, H x = some o → ¬ Ow d a b x → H' x = some o
instance {d a : Addr} {b : Sd} {H H' : Hp} : CoeFun (Kp d a b H H') (fun _ => ∀ x o, H x = some o → ¬ Own d a b x → H' x = some o) := ⟨fun k x o h n => k.run x o h (off n)⟩
theorem Kp.refl {d a : Addr} {b : Sd} {H : Hp} : Kp d a b H H := ⟨fun _ _ h _ => h⟩
theorem Kp.trans {d a : Addr} {b : Sd} {H H1 H2 : Hp} (p : Kp d a b H H1) (q : Kp d a b H1 H2) : Kp d a b H H2 :=
  ⟨fun x o h n => q.run x o (p.run x o h n) n⟩
theorem Kp.of {d a : Addr} {b : Sd} {H H1 : Hp} (p : Same H H1) : Kp d a b H H1 := ⟨fun x o h _ => p x o h⟩
theorem same_new {H : Hp} {p : Addr} {o : HO} (n : H p = none) : Same H (upd H p o) := fun b x e => by
  rw [upd_ne (ne_of_none e n)]
  exact e
theorem Kp.new {d a : Addr} {b : Sd} {p : Addr} {H : Hp} {o : HO} (n : H p = none) : Kp d a b H (upd H p o) := Kp.of (same_new n)

structure Deck (d a : Addr) (b : Sd) (H : Hp) (c : Nat) : Prop where
  ex : ∃ (big cells : List Int) (n : Int), H d = some (.lst [.ref a, .ref b.b, .int n]) ∧ H a = some (.lst (big.map V.int)) ∧
    H b.b = some (.lst (cells.map V.int)) ∧ big.length ≤ 63 ∧ (∀ z ∈ big, 0 ≤ z) ∧ 0 < cells.length ∧ cells.length ≤ 64 ∧
    (∀ z ∈ cells, 0 ≤ z) ∧ 0 ≤ n ∧ n ≤ (c : Int)
  ne : a ≠ b.b
  sd : ∀ y, b.l = some y → ∃ o, H y = some o
theorem map_no {l : List Int} {x y z : V} {p : Addr} (hx : x = .ref p) (h : l.map V.int = [x, y, z]) : False := by
  cases l with
  | nil => cases h
  | cons i r =>
    injection h with h1 h2
    rw [hx] at h1
    cases h1
section
variable {d a p : Addr} {b : Sd} {H H' : Hp} {c : Nat}
theorem Deck.da (D : Deck d a b H c) : d ≠ a := by
  obtain ⟨big, cells, n, h1, h2, h3, _⟩ := D.ex
  exact ne_of h1 h2 fun e => by
    injection e with e
    exact map_no rfl e.symm
theorem Deck.db (D : Deck d a b H c) : d ≠ b.b := by
  obtain ⟨big, cells, n, h1, h2, h3, _⟩ := D.ex
  exact ne_of h1 h3 fun e => by
    injection e with e
    exact map_no rfl e.symm
theorem Deck.fresh (D : Deck d a b H c) (h : H p = none) : ¬ Own d a b p := by
  obtain ⟨big, cells, n, h1, h2, h3, _⟩ := D.ex
  rintro ((z | z | z) | z)
  · rw [← z, h] at h1; cases h1
  · rw [← z, h] at h2; cases h2
  · rw [← z, h] at h3; cases h3
  · obtain ⟨o, e⟩ := D.sd p z
    rw [h] at e; cases e
theorem Deck.put (D : Deck d a b H c) (h : ¬ Ow d a b p) {o : HO} : Deck d a b (upd H p o) c := by
  obtain ⟨big, cells, n, h1, h2, h3, r⟩ := D.ex
  refine ⟨⟨big, cells, n, ?_, ?_, ?_, r⟩, D.ne, fun y hy => ?_⟩
  · rw [upd_ne fun e => h (.inl e.symm)]; exact h1
  · rw [upd_ne fun e => h (.inr (.inl e.symm))]; exact h2
  · rw [upd_ne fun e => h (.inr (.inr e.symm))]; exact h3
  · by_cases e : y = p
    · exact ⟨o, by rw [e]; exact upd_same⟩
    · rw [upd_ne e]; exact D.sd y hy
theorem Deck.new (D : Deck d a b H c) (h : H p = none) {o : HO} : Deck d a b (upd H p o) c := D.put (off (D.fresh h))
theorem Deck.same (D : Deck d a b H c) (h : Same H H') : Deck d a b H' c := by
  obtain ⟨big, cells, n, h1, h2, h3, r⟩ := D.ex
  exact ⟨⟨big, cells, n, h _ _ h1, h _ _ h2, h _ _ h3, r⟩, D.ne, fun y hy => let ⟨o, e⟩ := D.sd y hy; ⟨o, h _ _ e⟩⟩
theorem Deck.mono (D : Deck d a b H c) {c' : Nat} (h : c ≤ c') : Deck d a b H c' := by
  obtain ⟨big, cells, n, h1, h2, h3, q1, q2, q3, q4, q5, q6, q7⟩ := D.ex
  exact ⟨⟨big, cells, n, h1, h2, h3, q1, q2, q3, q4, q5, q6, by omega⟩, D.ne, D.sd⟩
/-- a list of one's own beside the deck -/
theorem Deck.side (D : Deck d a b H c) {o : HO} (h : H p = some o) : Deck d a ⟨b.b, some p⟩ H c :=
  ⟨D.ex, D.ne, fun y hy => ⟨o, by rw [← Option.some.inj hy]; exact h⟩⟩
theorem Deck.unside (D : Deck d a ⟨b.b, some p⟩ H c) (hb : b.l = none) : Deck d a b H c := ⟨D.ex, D.ne, fun y hy => by rw [hb] at hy; cases hy⟩
theorem Deck.bare (D : Deck d a b H c) : Deck d a ⟨b.b, none⟩ H c := ⟨D.ex, D.ne, fun y hy => nomatch hy⟩
end

theorem side_no {d a p y : Addr} {b : Sd} {H : Hp} {o : HO} (hy : H y = none) (h : H p = some o) (n : ¬ Own d a b p) : ¬ Own d a ⟨b.b, some y⟩ p := by
  rintro (z | z)
  · exact n (.inl z)
  · have e : y = p := Option.some.inj z
    rw [e, h] at hy
    cases hy
/-! things: data that stand apart from the deck -/
mutual
inductive Dt (d a : Addr) (b : Sd) (H : Hp) : V → PyData → Prop
  | non : Dt d a b H .non .none
  | bl (k : Bool) : Dt d a b H (.bl k) (.bool k)
  | int (i : Int) : Dt d a b H (.int i) (.int i)
  | str (x : Str) : Dt d a b H (.str x) (.str x)
  | lst {p : Addr} {xs : List V} {ds : List PyData} : H p = some (.lst xs) → ¬ Own d a b p → DtAll d a b H xs ds → Dt d a b H (.ref p) (.list ds)
  | tup {p : Addr} {xs : List V} {ds : List PyData} : H p = some (.tup xs) → ¬ Own d a b p → DtAll d a b H xs ds → Dt d a b H (.ref p) (.tuple ds)
  | dct {p : Addr} : H p = some (.dK []) → ¬ Own d a b p → Dt d a b H (.ref p) (.dict [])
inductive DtAll (d a : Addr) (b : Sd) (H : Hp) : List V → List PyData → Prop
  | nil : DtAll d a b H [] []
  | cons {v : V} {vs : List V} {x : PyData} {xs : List PyData} : Dt d a b H v x → DtAll d a b H vs xs → DtAll d a b H (v :: vs) (x :: xs)
end
section
variable {d a : Addr} {b : Sd} {H H' : Hp}
mutual
theorem Dt.keepO (k : ∀ x o, H x = some o → ¬ Own d a b x → H' x = some o) : ∀ (x : PyData) (v : V), Dt d a b H v x → Dt d a b H' v x
  | .none, _, .non => .non
  | .bool _, _, .bl _ => .bl _
  | .int _, _, .int _ => .int _
  | .str _, _, .str _ => .str _
  | .list _, _, .lst h n r => .lst (k _ _ h n) n (DtAll.keepO k _ _ r)
  | .tuple _, _, .tup h n r => .tup (k _ _ h n) n (DtAll.keepO k _ _ r)
  | .dict _, _, .dct h n => .dct (k _ _ h n) n
theorem DtAll.keepO (k : ∀ x o, H x = some o → ¬ Own d a b x → H' x = some o) : ∀ (xs : List PyData) (vs : List V), DtAll d a b H vs xs → DtAll d a b H' vs xs
  | [], _, .nil => .nil
  | _ :: _, _, .cons h r => .cons (Dt.keepO k _ _ h) (DtAll.keepO k _ _ r)
end
theorem Dt.keep (k : Kp d a b H H') (x : PyData) (v : V) (h : Dt d a b H v x) : Dt d a b H' v x := Dt.keepO (fun y o e n => k y o e n) x v h
theorem DtAll.keep (k : Kp d a b H H') (x : List PyData) (v : List V) (h : DtAll d a b H v x) : DtAll d a b H' v x := DtAll.keepO (fun y o e n => k y o e n) x v h
mutual
theorem Dt.side {y : Addr} (hb : b.l = none) (hy : H y = none) : ∀ (x : PyData) (v : V), Dt d a b H v x → Dt d a ⟨b.b, some y⟩ H v x
  | .none, _, .non => .non
  | .bool _, _, .bl _ => .bl _
  | .int _, _, .int _ => .int _
  | .str _, _, .str _ => .str _
  | .list _, _, .lst h n r => .lst h (side_no hy h n) (DtAll.side hb hy _ _ r)
  | .tuple _, _, .tup h n r => .tup h (side_no hy h n) (DtAll.side hb hy _ _ r)
  | .dict _, _, .dct h n => .dct h (side_no hy h n)
theorem DtAll.side {y : Addr} (hb : b.l = none) (hy : H y = none) : ∀ (xs : List PyData) (vs : List V), DtAll d a b H vs xs → DtAll d a ⟨b.b, some y⟩ H vs xs
  | [], _, .nil => .nil
  | _ :: _, _, .cons h r => .cons (Dt.side hb hy _ _ h) (DtAll.side hb hy _ _ r)
end
theorem DtAll.length : ∀ {vs : List V} {xs : List PyData}, DtAll d a b H vs xs → vs.length = xs.length
  | _, _, .nil => rfl
  | _, _, .cons _ r => by rw [List.length_cons, List.length_cons, DtAll.length r]
theorem DtAll.get : ∀ {vs : List V} {xs : List PyData} {i : Nat} {v : V}, DtAll d a b H vs xs → vs[i]? = some v → ∃ x, xs[i]? = some x ∧ Dt d a b H v x
  | _, _, _, _, .nil, e => by simp at e
  | _, _, 0, _, .cons h _, e => by
    simp at e
    subst e
    exact ⟨_, rfl, h⟩
  | _, _, i + 1, v, .cons _ r, e => by
    obtain ⟨x, h1, h2⟩ := DtAll.get (i := i) (v := v) r (by simpa using e)
    exact ⟨x, by simpa using h1, h2⟩
theorem DtAll.append : ∀ {vs ws : List V} {xs ys : List PyData}, DtAll d a b H vs xs → DtAll d a b H ws ys → DtAll d a b H (vs ++ ws) (xs ++ ys)
  | _, _, _, _, .nil, s => s
  | _, _, _, _, .cons h r, s => .cons h (DtAll.append r s)
theorem DtAll.ints : ∀ (l : List Int), DtAll d a b H (l.map V.int) (l.map PyData.int)
  | [] => .nil
  | _ :: l => .cons (.int _) (DtAll.ints l)
end

/-! a list stands somewhere within -/
mutual
def hasL : PyData → Bool
  | .list _ => true
  | .tuple xs => hasLAll xs
  | _ => false
def hasLAll : List PyData → Bool
  | [] => false
  | x :: xs => hasL x || hasLAll xs
end
section
variable {X : Cx} {pins : List (Addr × Obj)} {σ : L2.St} {H : Hp} {s : Shared} {d a : Addr} {b : Sd}
mutual
theorem Dt.reads (I : Inv X pins σ H s) :
    ∀ (x : PyData) (v : V) (u : Value), Dt d a b H v x → RelV v u → ∃ as, Reads s.heap u x as ∧ (hasL x = false → sysModules ∉ as)
  | .none, _, _, .non, r => by
    cases r
    exact ⟨_, Reads.none, fun _ => List.not_mem_nil⟩
  | .bool k, _, _, .bl _, r => by
    cases r
    exact ⟨_, Reads.bool k, fun _ => List.not_mem_nil⟩
  | .int i, _, _, .int _, r => by
    obtain ⟨t, rfl⟩ := r
    exact ⟨_, Reads.int i t, fun _ => List.not_mem_nil⟩
  | .str x, _, _, .str _, r => by
    obtain ⟨t, rfl⟩ := r
    exact ⟨_, Reads.str x t, fun _ => List.not_mem_nil⟩
  | .list ds, _, _, .lst h n q, r => by
    cases r
    obtain ⟨its, rv, ⟨o, m, ho, hc, _, hd⟩, _⟩ := I.list (SqL.of h)
    obtain ⟨as, hr, ha⟩ := Dt.readsAll I ds _ its q rv
    exact ⟨_, Reads.list ho hc hd hr, fun hl => by simp [hasL] at hl⟩
  | .tuple ds, _, _, .tup h n q, r => by
    cases r
    obtain ⟨its, rv, ⟨o, ho, hc, m, hd⟩, _⟩ := I.tuple (SqT.of h)
    obtain ⟨as, hr, ha⟩ := Dt.readsAll I ds _ its q rv
    exact ⟨_, Reads.tuple ho hc hd hr, fun hl => ha (by simpa [hasL] using hl)⟩
  | .dict _, _, _, .dct h n, r => by
    cases r
    obtain ⟨_, hp, vs, kv, o, es, ep, ho, hx, hd, _, hes, _⟩ := dk_of I.hok h
    cases kv
    have e0 : es.toList = [] := by
      generalize es.toList = l at hes
      cases hes
      rfl
    refine ⟨_, Reads.dict (kvs := []) ho hx.1 hd (by rw [e0]; exact ReadsAll.nil) (by rw [e0]; exact ReadsAll.nil), fun _ hm => ?_⟩
    rcases List.mem_cons.mp hm with z | z
    · rw [← z] at hp
      simp at hp
    · simp at z
theorem Dt.readsAll (I : Inv X pins σ H s) :
    ∀ (xs : List PyData) (vs : List V) (us : List Value), DtAll d a b H vs xs → Vals vs us → ∃ as, ReadsAll s.heap us xs as ∧ (hasLAll xs = false → sysModules ∉ as)
  | [], _, _, .nil, r => by
    cases r
    exact ⟨_, ReadsAll.nil, fun _ => List.not_mem_nil⟩
  | x :: xs, _, _, .cons h1 h2, .cons r1 r2 => by
    obtain ⟨as, q1, n1⟩ := Dt.reads I x _ _ h1 r1
    obtain ⟨bs, q2, n2⟩ := Dt.readsAll I xs _ _ h2 r2
    refine ⟨_, ReadsAll.cons q1 q2, fun hl hm => ?_⟩
    have hl2 : hasL x = false ∧ hasLAll xs = false := by simpa [hasLAll] using hl
    exact (List.mem_append.mp hm).elim (n1 hl2.1) (n2 hl2.2)
end
end
end Fr

set_option Elab.async false
set_option linter.all false
set_option maxRecDepth 100000
namespace Fr
open PySem PySem.Spec PyProof.Rows L2
/-! what is shown of a thing -/
def rShow : List V → Hp → VK → Prop := fun xs H Q => ∃ (d a : Addr) (b : Sd) (v : V) (x : PyData), xs = [v] ∧ Dt d a b H v x ∧
  x.showable = true ∧ (x.hasDict = true → hasL x = false) ∧ x.depth ≤ 30 ∧ x.shown.length ≤ sizeLine ∧ Q (.str x.shown) H
theorem call_show {X : Cx} (gd : X.A.guards = some []) (hu : X.A.units + 64 < cLine) : CallR X (.builtin "repr") rShow := by
  intro pins s σ H xs us Q I r h
  obtain ⟨d, a, b, v, x, rfl, ht, hs, hl, hd, hz, q⟩ := h
  obtain ⟨u, rfl, ru⟩ := vals1 r
  obtain ⟨as, hr, hn⟩ := Dt.reads I x v u ht ru
  have byRef : ∀ p : Addr, u = .ref p → wpAny (model X.prog X.w) X.A (call (.builtin "repr") [u]) (EP X pins σ Q) X.xe s := by
    intro p e
    subst e
    refine repr_of_reads' hr hs (fun h => hn (hl h)) gd (by omega) (fun _ _ e => e) (fun h' u' tk hk => ?_) hz
    exact ⟨.str x.shown, H, I.kept hk, ⟨u', rfl⟩, q⟩
  cases ht with
  | non =>
    cases ru
    exact PySem.P.repr_of_none ⟨.str _, H, I.tok _, ⟨_, rfl⟩, q⟩
  | bl k =>
    cases ru
    exact PySem.P.repr_of_bool ⟨.str _, H, I.tok _, ⟨_, rfl⟩, q⟩
  | int i =>
    obtain ⟨t, rfl⟩ := ru
    exact PySem.P.repr_of_int (by simpa [PyData.showable] using hs) ⟨.str _, H, I.tok _, ⟨_, rfl⟩, q⟩
  | str y =>
    obtain ⟨t, rfl⟩ := ru
    exact PySem.P.repr_of_str ⟨.str _, H, I.tok _, ⟨_, rfl⟩, q⟩ hz
  | lst h1 h2 h3 => exact byRef _ ru
  | tup h1 h2 h3 => exact byRef _ ru
  | dct h1 h2 => exact byRef _ ru

/-! sizes of texts -/
def lens : List Str → Nat
  | [] => 0
  | t :: r => t.length + 2 + lens r
theorem textFrom_most : ∀ (ts : List Str) (k : Nat) (acc : Str), (textFrom k acc ts).length ≤ acc.length + lens ts
  | [], k, acc => by
    show acc.length ≤ acc.length + 0
    omega
  | t :: r, k, acc => by
    have ih := textFrom_most r (k + 1) (acc ++ (if k > 0 then ", " else "" : String) ++ t)
    have e : (acc ++ ((if k > 0 then ", " else "" : String) : Str) ++ t).length ≤ acc.length + 2 + t.length := by
      rw [strLen_append, strLen_append]
      have : (((if k > 0 then ", " else "" : String) : Str)).length ≤ 2 := by split <;> decide
      omega
    show (textFrom (k + 1) (acc ++ (if k > 0 then ", " else "" : String) ++ t) r).length ≤ acc.length + (t.length + 2 + lens r)
    omega
theorem listText_most (ts : List Str) : (listText ts).length ≤ lens ts + 2 := by
  unfold listText
  rw [strLen_append]
  have h := textFrom_most ts 0 (("[" : String) : Str)
  have e1 : ((("[" : String) : Str)).length = 1 := rfl
  have e2 : ((("]" : String) : Str)).length = 1 := rfl
  omega
theorem join_most : ∀ ts : List Str, (Str.join ", " ts).length ≤ lens ts
  | [] => Nat.zero_le _
  | x :: r => by
    have h := join_length_add (x :: r) (by simp)
    have e : ∀ l : List Str, piled l = lens l := by
      intro l
      induction l with
      | nil => rfl
      | cons y l ih =>
        simp only [piled, lens, List.map_cons, List.sum_cons] at ih ⊢
        omega
    rw [e] at h
    omega
theorem tupleText_most (ts : List Str) : (tupleText ts).length ≤ lens ts + 3 := by
  unfold tupleText
  rw [strLen_append, strLen_append]
  have h := join_most ts
  have e1 : ((("(" : String) : Str)).length = 1 := rfl
  have e2 : (((if ts.length == 1 then ",)" else ")" : String) : Str)).length ≤ 2 := by split <;> decide
  omega
/-! fit to be shown, in at most n signs, at most k deep -/
structure Gd (x : PyData) (n k : Nat) : Prop where
  sh : x.showable = true
  dl : x.hasDict = true → hasL x = false
  dp : x.depth ≤ k
  ln : x.shown.length ≤ n
structure GdAll (xs : List PyData) (n k : Nat) : Prop where
  sh : PyData.showableAll xs = true
  dl : PyData.hasDictAll xs = true → hasLAll xs = false
  nd : PyData.hasDictAll xs = false ∨ hasLAll xs = false
  dp : PyData.depthAll xs ≤ k
  ln : lens (PyData.shownAll xs) ≤ n
theorem Gd.mono {x : PyData} {n k n' k' : Nat} (h : Gd x n k) (hn : n ≤ n') (hk : k ≤ k') : Gd x n' k' := ⟨h.sh, h.dl, by have := h.dp; omega, by have := h.ln; omega⟩
theorem gd_non : Gd .none 4 0 := ⟨by simp [PyData.showable], by simp [PyData.hasDict], by simp [PyData.depth], by simp only [PyData.shown]; decide⟩
theorem gd_bl (b : Bool) : Gd (.bool b) 5 0 := ⟨by simp [PyData.showable], by simp [PyData.hasDict], by simp [PyData.depth], by simp only [PyData.shown]; cases b <;> decide⟩
theorem gd_int {i : Int} (h : i.natAbs < 10 ^ 60) : Gd (.int i) 61 0 := by
  refine ⟨?_, by simp [PyData.hasDict], by simp [PyData.depth], ?_⟩
  · simp only [PyData.showable, decide_eq_true_eq]
    exact PySem.Flt.log2_lt_of (by decide) (Nat.lt_trans h (by decide +kernel))
  · simp only [PyData.shown]
    rw [PySem.ofString_length]
    exact int_text_length_le10 (by decide) h
theorem gd_str {x : Str} {n : Nat} (h : (reprText x).length ≤ n) : Gd (.str x) n 0 := ⟨by simp [PyData.showable], by simp [PyData.hasDict], by simp [PyData.depth], by simp only [PyData.shown]; exact h⟩
theorem gd_dct : Gd (.dict []) 2 1 := ⟨by simp [PyData.showable, PyData.showableKv], by simp [hasL], by simp [PyData.depth, PyData.depthKv], by simp only [PyData.shown, PyData.shownKv]; decide⟩
theorem gd_tup {xs : List PyData} {n k : Nat} (h : GdAll xs n k) : Gd (.tuple xs) (n + 3) (k + 1) := by
  refine ⟨by simpa [PyData.showable] using h.sh, fun q => ?_, by simp only [PyData.depth]; have := h.dp; omega, ?_⟩
  · simp only [hasL]
    exact h.dl (by simpa [PyData.hasDict] using q)
  · simp only [PyData.shown]
    exact Nat.le_trans (tupleText_most _) (by have := h.ln; omega)
theorem gd_lst {xs : List PyData} {n k : Nat} (h : GdAll xs n k) (hd : PyData.hasDictAll xs = false) : Gd (.list xs) (n + 2) (k + 1) := by
  refine ⟨by simpa [PyData.showable] using h.sh, fun q => ?_, by simp only [PyData.depth]; have := h.dp; omega, ?_⟩
  · rw [PyData.hasDict, hd] at q
    cases q
  · simp only [PyData.shown]
    exact Nat.le_trans (listText_most _) (by have := h.ln; omega)
/-- plain: neither a list nor a dict within -/
structure Pl (x : PyData) : Prop where
  l : hasL x = false
  d : x.hasDict = false
structure PlAll (xs : List PyData) : Prop where
  l : hasLAll xs = false
  d : PyData.hasDictAll xs = false
theorem pl_int (i : Int) : Pl (.int i) := ⟨by simp [hasL], by simp [PyData.hasDict]⟩
theorem pl_tup {xs : List PyData} (h : PlAll xs) : Pl (.tuple xs) := ⟨by simpa [hasL] using h.l, by simpa [PyData.hasDict] using h.d⟩
theorem gdall_nil : GdAll [] 0 0 := ⟨by simp [PyData.showableAll], by simp [PyData.hasDictAll], .inl (by simp [PyData.hasDictAll]), by simp [PyData.depthAll], by simp [PyData.shownAll, lens]⟩
theorem plall_nil : PlAll [] := ⟨by simp [hasLAll], by simp [PyData.hasDictAll]⟩
theorem plall_cons {x : PyData} {xs : List PyData} (h : Pl x) (hs : PlAll xs) : PlAll (x :: xs) := ⟨by simp [hasLAll, h.l, hs.l], by simp [PyData.hasDictAll, h.d, hs.d]⟩
/-- one of the two is plain -/
theorem gdall_cons {x : PyData} {xs : List PyData} {n k m : Nat} (h : Gd x n k) (hs : GdAll xs m k) (p : Pl x ∨ PlAll xs) : GdAll (x :: xs) (n + 2 + m) k := by
  refine ⟨by simp [PyData.showableAll, h.sh, hs.sh], fun q => ?_, ?_, by simp only [PyData.depthAll]; exact Nat.max_le.mpr ⟨h.dp, hs.dp⟩, ?_⟩
  · simp only [PyData.hasDictAll, Bool.or_eq_true] at q
    simp only [hasLAll, Bool.or_eq_false_iff]
    rcases p with p | p
    · rcases q with q | q
      · rw [p.d] at q; cases q
      · exact ⟨p.l, hs.dl q⟩
    · rcases q with q | q
      · exact ⟨h.dl q, p.l⟩
      · rw [p.d] at q; cases q
  · rcases p with p | p
    · rcases hs.nd with q | q
      · exact .inl (by simp [PyData.hasDictAll, p.d, q])
      · exact .inr (by simp [hasLAll, p.l, q])
    · cases q : x.hasDict with
      | false => exact .inl (by simp [PyData.hasDictAll, p.d, q])
      | true => exact .inr (by simp [hasLAll, p.l, h.dl q])
  · simp only [PyData.shownAll, lens]
    have := h.ln
    have := hs.ln
    omega
theorem gdall_mono {xs : List PyData} {n k n' k' : Nat} (h : GdAll xs n k) (hn : n ≤ n') (hk : k ≤ k') : GdAll xs n' k' := ⟨h.sh, h.dl, h.nd, by have := h.dp; omega, by have := h.ln; omega⟩
end Fr

set_option Elab.async false
set_option linter.all false
set_option maxRecDepth 100000
namespace Fr
open PySem PySem.Spec PyProof.Rows L2
/-! callees by their names -/
structure Callee (P : Program) (w : World) (K : PySem.W.Frag) (mg : Str → Option Value) (base : Heap) (k : Nat) (x : Str) (ps : List Str) (sp : Sp) : Prop where
  ex : ∃ f fd, FnOk P w K mg base CX0 k f fd ps sp ∧ mg x = some (.ref f) ∧ PySem.W.keepIn K (.ref f) = true ∧ Binds K fd ps []
theorem pe_u {X : Cx} {k j : Nat} {x : Str} {ps : List Str} {sp : Sp} {p pos : Pos} {e : Expr} {es : List Expr} {t : TA}
    (c : Callee X.prog X.w X.K X.mg X.base k x ps sp) (hr : Room j X.A) (hg : Gl X x) (ha : PA X (e :: es) t)
    (hkj : k ≤ j := by first | decide | exact Nat.le_refl _) (hdb : (x == ("__debug__" : Str)) = false := by decide)
    (he : starEach (e :: es) X.env = (false, eval e X.env) :: starEach es X.env := by rfl)
    (hpl : (backTo pos (starEach es X.env)).any (·.1) = false := by rfl) :
    PE X (.Call (.Name x p) (e :: es) [] pos) (tCall sp [] E0 t) := by
  obtain ⟨f, fd, F, gf, kf, bf⟩ := c.ex
  exact pe_call F (hr.mono hkj) hg gf kf bf .nil pass0 ha hdb he hpl
theorem Callee.mk' {P : Program} {w : World} {K : PySem.W.Frag} {mg : Str → Option Value} {base : Heap} {k : Nat} {x q : Str} {st : Stmt} {ps : List Str} {sp : Sp}
    {f : Addr} {fd : FuncData} (F : Fun K x q st f fd) (g : mg x = some (.ref f)) (b : Binds K fd ps [])
    (ok : FnOk P w K mg base CX0 k f fd ps sp) : Callee P w K mg base k x ps sp := ⟨⟨f, fd, ok, g, F.kp, b⟩⟩
/-! numbers -/
theorem at0 {x : V} {r : List V} : atI (x :: r) 0 = some x := atI_nat (j := 0) rfl
theorem at1 {x y : V} {r : List V} : atI (x :: y :: r) 1 = some y := atI_nat (j := 1) rfl
theorem at2 {x y z : V} {r : List V} : atI (x :: y :: z :: r) 2 = some z := atI_nat (j := 2) rfl
theorem dp_ints {K : PySem.W.Frag} {H : Hp} : ∀ l : List Int, DpAll K H (l.map V.int) (l.map PyData.int)
  | [] => .nil
  | _ :: l => .cons (.int _) (dp_ints l)
theorem lay_ints : ∀ l : List Int, PyData.canLayAll0 (l.map PyData.int) = true
  | [] => by simp [PyData.canLayAll0]
  | i :: l => by simp [PyData.canLayAll0, PyData.canLay0, lay_ints l]
theorem depth_ints : ∀ l : List Int, PyData.depthAll (l.map PyData.int) = 0
  | [] => by simp [PyData.depthAll]
  | i :: l => by simp [PyData.depthAll, PyData.depth, depth_ints l]
theorem shaped_ints (l : List Int) : SeqAt.shaped (.list (l.map PyData.int)) = true := by
  simp [SeqAt.shaped, PyData.canLay0, PyData.depth, lay_ints, depth_ints]
theorem shaped_nil : SeqAt.shaped (.list []) = true := shaped_ints []
theorem ix_first {x : Int} {r : List Int} : ixN ((x :: r).map V.int).length 0 = some 0 := by
  simp [ixN]
theorem eqv_nil (xs : List PyData) : PyData.eqv (.list xs) (.list []) = xs.isEmpty := by
  cases xs <;> simp [PyData.eqv, PyData.eqvAll]
theorem eqv_nilT (xs : List PyData) : PyData.eqv (.tuple xs) (.tuple []) = xs.isEmpty := by
  cases xs <;> simp [PyData.eqv, PyData.eqvAll]
end Fr

set_option Elab.async false
set_option linter.all false
set_option maxRecDepth 100000
namespace Fr
open PySem PySem.Spec PyProof.Rows L2
section
variable {X : Cx}
/-! a list of anything held against [] -/
def rNeE (K : PySem.W.Frag) : R2 := fun x y H Q => ∃ p q xs, x = .ref p ∧ y = .ref q ∧ SqL K H p xs ∧ SqL K H q [] ∧ Q (.bl (!xs.isEmpty)) H
def rEqE (K : PySem.W.Frag) : R2 := fun x y H Q => ∃ p q xs, x = .ref p ∧ y = .ref q ∧ SqL K H p xs ∧ SqL K H q [] ∧ Q (.bl xs.isEmpty) H
theorem op_neE (hu : X.A.units + 64 < cLine) : OpR X (compareOp .NotEq) (rNeE X.K) := by
  intro pins s σ H x y v u Q I rx ry h
  obtain ⟨p, q, xs, rfl, rfl, h1, h2, z⟩ := h
  cases rx
  cases ry
  obtain ⟨is, rv, l1, _⟩ := I.list h1
  obtain ⟨js, rw', l2, _⟩ := I.list h2
  cases rw'
  cases xs with
  | nil =>
    cases rv
    exact SeqAt.RcNeAt.lists (e := fun _ => true) l1.isList l2.isList rfl (by omega) (fun j a _ => absurd a (Nat.not_lt_zero _)) _ _ _ _ ⟨.bl _, H, I, rfl, z⟩
  | cons y xs =>
    cases rv
    exact SeqAt.RcNeAt.lists_lengths l1.isList l2.isList (by simp) (by omega) _ _ _ _ ⟨.bl _, H, I, rfl, z⟩
theorem op_eqE (hu : X.A.units + 64 < cLine) : OpR X (compareOp .Eq) (rEqE X.K) := by
  intro pins s σ H x y v u Q I rx ry h
  obtain ⟨p, q, xs, rfl, rfl, h1, h2, z⟩ := h
  cases rx
  cases ry
  obtain ⟨is, rv, l1, _⟩ := I.list h1
  obtain ⟨js, rw', l2, _⟩ := I.list h2
  cases rw'
  cases xs with
  | nil =>
    cases rv
    exact SeqAt.RcAt.lists (e := fun _ => true) l1.isList l2.isList rfl (by omega) (fun j a _ => absurd a (Nat.not_lt_zero _)) _ _ _ _ ⟨.bl _, H, I, rfl, z⟩
  | cons y xs =>
    cases rv
    exact SeqAt.RcAt.lists_lengths l1.isList l2.isList (by simp) (by omega) _ _ _ _ ⟨.bl _, H, I, rfl, z⟩
end
/-! t[::-1] of a tuple -/
theorem places_back (n : Nat) : Builtin.Slice.slicePlaces ((n : Int) - 1) (-1) (-1) = n := by
  unfold Builtin.Slice.slicePlaces
  rw [if_neg (by decide)]
  by_cases h : (n : Int) - 1 > -1
  · rw [if_pos h]
    have e0 : (- -1 : Int) = 1 := by decide
    have e : ((n : Int) - 1 - -1 - 1) / (- -1) + 1 = n := by
      rw [e0, Int.ediv_one]
      omega
    rw [e]
    exact Int.toNat_natCast n
  · rw [if_neg h]
    have e : n = 0 := by omega
    rw [e]
    rfl
theorem pick_back (xs : Array Value) : ((List.range xs.size).filterMap fun (k : Nat) => xs[(((xs.size : Int) - 1) + (k : Int) * -1).toNat]?).toArray = xs.toList.reverse.toArray := by
  congr 1
  have e2 : ∀ l : List Nat, (∀ k ∈ l, k < xs.size) → l.filterMap (fun (k : Nat) => xs[(((xs.size : Int) - 1) + (k : Int) * -1).toNat]?) = (l.map fun k => xs.size - 1 - k).filterMap (xs[·]?) := by
    intro l
    induction l with
    | nil => intro _; rfl
    | cons k l ih =>
      intro hk
      have hk1 := hk k List.mem_cons_self
      have e3 : (((xs.size : Int) - 1) + (k : Int) * -1).toNat = xs.size - 1 - k := by omega
      rw [List.map_cons, List.filterMap_cons, List.filterMap_cons, ih fun j hj => hk j (List.mem_cons_of_mem _ hj), e3]
  rw [e2 _ fun k hk => List.mem_range.mp hk, PySem.W.krv_range, List.filterMap_reverse, PySem.W.krv_all]
theorem getItem_back {prog : Program} {w : World} {A : Around} {E : Value → Shared → Prop} {s : Shared} {t sl : Addr} {items : Array Value} {vl vu vs : Value} {Q : Value → Shared → Prop}
    (ht : IsTup s.heap t items) (hs : s.heap.IsSliceOf sl vl vu vs) (pl : IsPart vl none) (pu : IsPart vu none) (ps : IsPart vs (some (-1)))
    (h : Q (.ref s.heap.objs.size) { s with heap := s.heap.push { cls := .type "tuple", data := .seq items.toList.reverse.toArray } })
    (hsz : items.size ≤ sizeLine) : wpAny (model prog w) A (getItem (.ref t) (.ref sl)) Q E s := by
  obtain ⟨os, hos, hcs, hds⟩ := id hs
  have hTs : s.TypeIs (.ref sl) "slice" := ⟨os, hos, hcs⟩
  unfold getItem
  try with_reducible refine wpAny_holding ?_
  try refine wpAny_bind (wpAny_pure ?_)
  refine wpAny_bind (wpAny_sequenceKey (ht.typeIs) (by decide) (wpAny_bind
    (wpAny_callSpecial?_slot (name := Str.ofString "__getitem__") (ht.typeIs) slot_tuple_getitem
      (wpAny_call_entry slot_tuple_getitem (ht.typeIs) entry_tuple_getitem ?_ (args_tuple_getitem _ _)))))
  show wpAny _ _ ((Builtin.Tuple.tupleItemsOf (.ref t)) >>= _) _ _ s
  refine wpAny_bind (tupleItemsOf_ ht (wpAny_bind (wpAny_typeOf hTs ?_)))
  rw [if_pos (by decide)]
  have app : ∀ {Q' : Int × Int × Nat → Shared → Prop}, Q' ((items.size : Int) - 1, -1, items.size) s →
      wpAny (model prog w) A.in1 (Builtin.Slice.sliceApplied (.ref sl) (pure (items.size : Int))) Q' E s := by
    intro Q' q
    unfold Builtin.Slice.sliceApplied Builtin.Slice.sliceFields
    refine wpAny_bind (wpAny_bind (wpAny_field hos hds (x := vl) rfl (wpAny_bind (wpAny_field hos hds (x := vu) rfl
      (wpAny_bind (wpAny_field hos hds (x := vs) rfl (wpAny_pure ?_)))))))
    refine wpAny_bind (HT.slicePart_ ps ?_)
    show wpAny _ _ (if ((-1 : Int) == 0) = true then _ else _) _ _ s
    rw [if_neg (by decide)]
    refine wpAny_bind (HT.slicePart_ pl (wpAny_bind (HT.slicePart_ pu (wpAny_bind (wpAny_pure ?_)))))
    show wpAny _ _ (pure (((items.size : Int) - 1), (-1 : Int), Builtin.Slice.slicePlaces ((items.size : Int) - 1) (-1) (-1))) _ _ s
    rw [places_back]
    exact wpAny_pure q
  have fits : sizeOk (.seq items.toList.reverse.toArray) := by
    show items.toList.reverse.toArray.size ≤ sizeLine
    rw [List.size_toArray, List.length_reverse, Array.length_toList]
    exact hsz
  first
  | refine wpAny_bind (app ?_)
  | (refine wpAny_bind ?_; trace_state)
  show wpAny _ _ (if (((items.size : Int) - 1) == 0 && (-1 : Int) == 1 && items.size == items.size) = true then _ else _) _ _ s
  rw [if_neg (by simp), pick_back]
  first
    | exact wpAny_bind (m := Builtin.Tuple.tupleExact _) (wpAny_newObj_type (wpAny_pure ⟨_, rfl, wpAny_pure h⟩) fits)
    | exact wpAny_bind (m := Builtin.Tuple.tupleExact _) (wpAny_newObj_type (wpAny_bind (wpAny_pure (wpAny_pure ⟨_, rfl, wpAny_pure h⟩))) fits)
section
variable {X : Cx}
def tRevT (K : PySem.W.Frag) (te : TE) : TE := fun σ H Q => te σ H fun x H1 => ∃ a xs, x = .ref a ∧ SqT K H1 a xs ∧ ∀ p, H1 p = none → Q (.ref p) (upd H1 p (.tup xs.reverse))
theorem pe_revT {e : Expr} {te : TE} {k : Nat} {p1 p2 p3 pos : Pos} (he : PE X e te) :
    PE X (.Subscript e (.Slice none none (some (.UnaryOp .USub (.Constant (.int 1) k p1) p2)) p3) pos) (tRevT X.K te) := by
  refine ⟨fun pins s σ H Q I h => Subscript_ (thn (he.run pins s σ H _ I h) fun v s1 ⟨x, H1, I1, r1, a, xs, ex, hx, q⟩ => ?_)⟩
  subst ex
  cases r1
  have back : PO X (some (.UnaryOp .USub (.Constant (.int 1) k p1) p2)) (tPart (tUn (rU fun i => .int (-i)) (tC (.int 1)))) := po_some (pe_un un_neg pe_int)
  refine wpAny_Slice (thn (po_none.run pins s1 σ H1 (fun o G => o = none ∧ G = H1) I1 ⟨rfl, rfl⟩) fun vl s2 ⟨o2, H2, I2, pl, e1, e2⟩ => ?_)
  subst e1 e2
  refine thn (po_none.run pins s2 σ H2 (fun o G => o = none ∧ G = H2) I2 ⟨rfl, rfl⟩) fun vu s3 ⟨o3, H3, I3, pu, e1, e2⟩ => ?_
  subst e1 e2
  refine thn (back.run pins s3 σ H3 (fun o G => o = some (-1) ∧ G = H3) I3 ⟨1, rfl, -1, rfl, rfl, rfl⟩) fun vs s4 ⟨o4, H4, I4, ps, e1, e2⟩ => ?_
  subst e1 e2
  have J := I4.kept (h' := s4.heap.push { cls := .type "slice", data := .fields #[vl, vu, vs] }) (t' := s4.toks) fun b ob z => Heap.get?_push_of_some _ z
  obtain ⟨its, r, ht, hz⟩ := J.tuple hx
  refine tail_any (ops := [.ref a, .ref s4.heap.objs.size]) ht.typeIs PyProof.Rows.slot_tuple_getitem.lookup ?_ (by with_unfolding_all rfl)
  refine getItem_back ht (Heap.IsSliceOf.new _ vl vu vs) pl pu ps ?_ (by rw [List.size_toArray, ← r.length]; exact hz)
  refine ⟨.ref _, _, J.laid (t' := s4.toks) (o := .tup xs.reverse) (fun b ob z => Heap.get?_push_of_some _ z) (Nat.le_refl _) ?_, rfl, q _ (J.hok.fresh (Nat.le_refl _))⟩
  exact ⟨by rw [List.length_reverse]; exact hz, _, r.reverse, ⟨_, Heap.get?_push_size _ rfl, rfl, _, rfl⟩⟩
end
end Fr

set_option Elab.async false
set_option linter.all false
set_option maxRecDepth 100000
namespace Fr
open PySem PySem.Spec PyProof.Rows L2
/-! what a thing is an instance of -/
def tyN : PyData → String
  | .none => "NoneType"
  | .bool _ => "bool"
  | .int _ => "int"
  | .str _ => "str"
  | .list _ => "list"
  | .tuple _ => "tuple"
  | .dict _ => "dict"
def isI : PyData → Bool
  | .int _ => true
  | .bool _ => true
  | _ => false
theorem kitI_none : kitB "NoneType" "int" = some false := by decide +kernel
theorem kitI_bool : kitB "bool" "int" = some true := by decide +kernel
theorem kitI_int : kitB "int" "int" = some true := by decide +kernel
theorem kitI_str : kitB "str" "int" = some false := by decide +kernel
theorem kitI_list : kitB "list" "int" = some false := by decide +kernel
theorem kitI_tuple : kitB "tuple" "int" = some false := by decide +kernel
theorem kitI_dict : kitB "dict" "int" = some false := by decide +kernel
theorem kit_I : ∀ x : PyData, kitB (tyN x) "int" = some (isI x)
  | .none => kitI_none
  | .bool _ => kitI_bool
  | .int _ => kitI_int
  | .str _ => kitI_str
  | .list _ => kitI_list
  | .tuple _ => kitI_tuple
  | .dict _ => kitI_dict
def isB : PyData → Bool
  | .bool _ => true
  | _ => false
theorem kitB_none : kitB "NoneType" "bool" = some false := by decide +kernel
theorem kitB_bool : kitB "bool" "bool" = some true := by decide +kernel
theorem kitB_int : kitB "int" "bool" = some false := by decide +kernel
theorem kitB_str : kitB "str" "bool" = some false := by decide +kernel
theorem kitB_list : kitB "list" "bool" = some false := by decide +kernel
theorem kitB_tuple : kitB "tuple" "bool" = some false := by decide +kernel
theorem kitB_dict : kitB "dict" "bool" = some false := by decide +kernel
theorem kit_B : ∀ x : PyData, kitB (tyN x) "bool" = some (isB x)
  | .none => kitB_none
  | .bool _ => kitB_bool
  | .int _ => kitB_int
  | .str _ => kitB_str
  | .list _ => kitB_list
  | .tuple _ => kitB_tuple
  | .dict _ => kitB_dict
def isT : PyData → Bool
  | .tuple _ => true
  | _ => false
theorem kitT_none : kitB "NoneType" "tuple" = some false := by decide +kernel
theorem kitT_bool : kitB "bool" "tuple" = some false := by decide +kernel
theorem kitT_int : kitB "int" "tuple" = some false := by decide +kernel
theorem kitT_str : kitB "str" "tuple" = some false := by decide +kernel
theorem kitT_list : kitB "list" "tuple" = some false := by decide +kernel
theorem kitT_tuple : kitB "tuple" "tuple" = some true := by decide +kernel
theorem kitT_dict : kitB "dict" "tuple" = some false := by decide +kernel
theorem kit_T : ∀ x : PyData, kitB (tyN x) "tuple" = some (isT x)
  | .none => kitT_none
  | .bool _ => kitT_bool
  | .int _ => kitT_int
  | .str _ => kitT_str
  | .list _ => kitT_list
  | .tuple _ => kitT_tuple
  | .dict _ => kitT_dict
def isS : PyData → Bool
  | .str _ => true
  | _ => false
theorem kitS_none : kitB "NoneType" "str" = some false := by decide +kernel
theorem kitS_bool : kitB "bool" "str" = some false := by decide +kernel
theorem kitS_int : kitB "int" "str" = some false := by decide +kernel
theorem kitS_str : kitB "str" "str" = some true := by decide +kernel
theorem kitS_list : kitB "list" "str" = some false := by decide +kernel
theorem kitS_tuple : kitB "tuple" "str" = some false := by decide +kernel
theorem kitS_dict : kitB "dict" "str" = some false := by decide +kernel
theorem kit_S : ∀ x : PyData, kitB (tyN x) "str" = some (isS x)
  | .none => kitS_none
  | .bool _ => kitS_bool
  | .int _ => kitS_int
  | .str _ => kitS_str
  | .list _ => kitS_list
  | .tuple _ => kitS_tuple
  | .dict _ => kitS_dict
def isL : PyData → Bool
  | .list _ => true
  | _ => false
theorem kitL_none : kitB "NoneType" "list" = some false := by decide +kernel
theorem kitL_bool : kitB "bool" "list" = some false := by decide +kernel
theorem kitL_int : kitB "int" "list" = some false := by decide +kernel
theorem kitL_str : kitB "str" "list" = some false := by decide +kernel
theorem kitL_list : kitB "list" "list" = some true := by decide +kernel
theorem kitL_tuple : kitB "tuple" "list" = some false := by decide +kernel
theorem kitL_dict : kitB "dict" "list" = some false := by decide +kernel
theorem kit_L : ∀ x : PyData, kitB (tyN x) "list" = some (isL x)
  | .none => kitL_none
  | .bool _ => kitL_bool
  | .int _ => kitL_int
  | .str _ => kitL_str
  | .list _ => kitL_list
  | .tuple _ => kitL_tuple
  | .dict _ => kitL_dict

section
variable {d a : Addr} {b : Sd} {H : Hp} {K : PySem.W.Frag} {v : V} {x : PyData}
theorem Dt.ty (h : Dt d a b H v x) : TyX K H v (.type (tyN x)) := by
  cases h with
  | non => exact .base .non
  | bl k => exact .base (.bl k)
  | int i => exact .base (.int i)
  | str y => exact .base (.str y)
  | lst h1 h2 h3 => exact .base (.lst h1)
  | tup h1 h2 h3 => exact .base (.tup h1)
  | dct h1 h2 => exact .base (.dK h1)
end
/-! a whole number; one from lo to hi -/
def isW : PyData → Bool
  | .int _ => true
  | _ => false
def inR (lo hi : Int) : PyData → Bool
  | .int i => decide (lo ≤ i) && decide (i ≤ hi)
  | _ => false
theorem isW_eq (x : PyData) : isW x = (isI x && !isB x) := by cases x <;> rfl
theorem of_isW {d a : Addr} {b : Sd} {H : Hp} {v : V} {x : PyData} (h : Dt d a b H v x) (w : isW x = true) : ∃ i, v = .int i ∧ x = .int i := by
  cases h with
  | int i => exact ⟨i, rfl, rfl⟩
  | _ => cases w
theorem inR_no {lo hi : Int} {x : PyData} (w : isW x = false) : inR lo hi x = false := by
  cases x with
  | int i => cases w
  | _ => rfl
end Fr

set_option Elab.async false
set_option linter.all false
set_option maxRecDepth 100000
namespace Fr
open PySem PySem.Spec PyProof.Rows L2
theorem Callee.mono {P : Program} {w : World} {K : PySem.W.Frag} {mg : Str → Option Value} {base : Heap} {j k : Nat} {x : Str} {ps : List Str} {sp : Sp}
    (c : Callee P w K mg base j x ps sp) (h : j ≤ k) : Callee P w K mg base k x ps sp := by
  obtain ⟨f, fd, F, r⟩ := c.ex
  exact ⟨⟨f, fd, F.mono h, r⟩⟩
/-! things as they are drawn: numbers below 10 ** 13, tuples of at most twelve such -/
mutual
def bs : PyData → Bool
  | .int i => decide (i.natAbs < 10 ^ 13)
  | .tuple xs => decide (xs.length ≤ 12) && bsAll xs
  | _ => false
def bsAll : List PyData → Bool
  | [] => true
  | x :: xs => bs x && bsAll xs
end
def szS : Nat → Nat
  | 0 => 63
  | n + 1 => 12 * (szS n + 2) + 3
theorem szS_ge : ∀ n, 63 ≤ szS n
  | 0 => Nat.le_refl _
  | n + 1 => by
    have := szS_ge n
    show 63 ≤ 12 * (szS n + 2) + 3
    omega
mutual
theorem bs_gd : ∀ (x : PyData) (n : Nat), bs x = true → x.depth ≤ n → Gd x (szS n) n ∧ Pl x
  | .int i, n, h, _ => by
    have h : i.natAbs < 10 ^ 13 := by simpa [bs] using h
    exact ⟨(gd_int (Nat.lt_trans h (by decide))).mono (by have := szS_ge n; omega) (Nat.zero_le _), pl_int i⟩
  | .tuple xs, 0, _, hd => by
    simp [PyData.depth] at hd
  | .tuple xs, n + 1, h, hd => by
    simp only [bs, Bool.and_eq_true, decide_eq_true_eq] at h
    have hd : PyData.depthAll xs ≤ n := by simpa [PyData.depth] using hd
    obtain ⟨g, p⟩ := bs_gdAll xs n h.2 hd
    refine ⟨(gd_tup g).mono ?_ (Nat.le_refl _), pl_tup p⟩
    show xs.length * (szS n + 2) + 3 ≤ 12 * (szS n + 2) + 3
    have := Nat.mul_le_mul_right (szS n + 2) h.1
    omega
  | .none, _, h, _ => by simp [bs] at h
  | .bool _, _, h, _ => by simp [bs] at h
  | .str _, _, h, _ => by simp [bs] at h
  | .list _, _, h, _ => by simp [bs] at h
  | .dict _, _, h, _ => by simp [bs] at h
theorem bs_gdAll : ∀ (xs : List PyData) (n : Nat), bsAll xs = true → PyData.depthAll xs ≤ n → GdAll xs (xs.length * (szS n + 2)) n ∧ PlAll xs
  | [], n, _, _ => ⟨gdall_mono gdall_nil (Nat.zero_le _) (Nat.zero_le _), plall_nil⟩
  | x :: xs, n, h, hd => by
    simp only [bsAll, Bool.and_eq_true] at h
    simp only [PyData.depthAll, Nat.max_le] at hd
    obtain ⟨g, p⟩ := bs_gd x n h.1 hd.1
    obtain ⟨gs, ps⟩ := bs_gdAll xs n h.2 hd.2
    refine ⟨gdall_mono (gdall_cons g gs (.inl p)) ?_ (Nat.le_refl _), plall_cons p ps⟩
    rw [List.length_cons, Nat.add_mul, Nat.one_mul]
    omega
end
mutual
theorem bs_lay : ∀ (x : PyData), bs x = true → x.canLay0 = true
  | .int i, _ => by simp [PyData.canLay0]
  | .tuple xs, h => by
    simp only [bs, Bool.and_eq_true] at h
    simpa [PyData.canLay0] using bs_layAll xs h.2
  | .none, h => by simp [bs] at h
  | .bool _, h => by simp [bs] at h
  | .str _, h => by simp [bs] at h
  | .list _, h => by simp [bs] at h
  | .dict _, h => by simp [bs] at h
theorem bs_layAll : ∀ (xs : List PyData), bsAll xs = true → PyData.canLayAll0 xs = true
  | [], _ => by simp [PyData.canLayAll0]
  | x :: xs, h => by
    simp only [bsAll, Bool.and_eq_true] at h
    simp [PyData.canLayAll0, bs_lay x h.1, bs_layAll xs h.2]
end
theorem bsAll_iff : ∀ xs : List PyData, bsAll xs = true ↔ ∀ x ∈ xs, bs x = true
  | [] => by simp [bsAll]
  | x :: xs => by simp [bsAll, bsAll_iff xs]
theorem depthAll_le : ∀ (xs : List PyData) (n : Nat), PyData.depthAll xs ≤ n ↔ ∀ x ∈ xs, x.depth ≤ n
  | [], n => by simp [PyData.depthAll]
  | x :: xs, n => by simp [PyData.depthAll, Nat.max_le, depthAll_le xs n]
section
variable {d a : Addr} {b : Sd} {H : Hp} {K : PySem.W.Frag}
mutual
theorem Dt.dp : ∀ (x : PyData) (v : V), Dt d a b H v x → bs x = true → Dp K H v x
  | .int _, _, .int i, _ => .int i
  | .tuple _, _, .tup h _ r, hb => .tup (SqT.of h) (DtAll.dp _ _ r (by simp only [bs, Bool.and_eq_true] at hb; exact hb.2))
  | .none, _, .non, h => by simp [bs] at h
  | .bool _, _, .bl _, h => by simp [bs] at h
  | .str _, _, .str _, h => by simp [bs] at h
  | .list _, _, .lst _ _ _, h => by simp [bs] at h
  | .dict _, _, .dct _ _, h => by simp [bs] at h
theorem DtAll.dp : ∀ (xs : List PyData) (vs : List V), DtAll d a b H vs xs → bsAll xs = true → DpAll K H vs xs
  | [], _, .nil, _ => .nil
  | _ :: _, _, .cons h r, hb => by
    simp only [bsAll, Bool.and_eq_true] at hb
    exact .cons (Dt.dp _ _ h hb.1) (DtAll.dp _ _ r hb.2)
end
theorem DtAll.take : ∀ {vs : List V} {xs : List PyData} (n : Nat), DtAll d a b H vs xs → DtAll d a b H (vs.take n) (xs.take n)
  | _, _, 0, _ => .nil
  | _, _, _ + 1, .nil => .nil
  | _, _, n + 1, .cons h r => .cons h (DtAll.take n r)
theorem DtAll.drop : ∀ {vs : List V} {xs : List PyData} (n : Nat), DtAll d a b H vs xs → DtAll d a b H (vs.drop n) (xs.drop n)
  | _, _, 0, r => r
  | _, _, _ + 1, .nil => .nil
  | _, _, n + 1, .cons _ r => DtAll.drop n r
theorem DtAll.reverse : ∀ {vs : List V} {xs : List PyData}, DtAll d a b H vs xs → DtAll d a b H vs.reverse xs.reverse
  | _, _, .nil => .nil
  | _, _, .cons h r => by
    rw [List.reverse_cons, List.reverse_cons]
    exact (DtAll.reverse r).append (.cons h .nil)
end
/-! slices and sums of tuples -/
theorem cut_to (xs : List V) (n : Nat) : cutV xs none (some (n : Int)) = xs.take n := by
  unfold cutV
  rw [HT.sIx_none, HT.sIx_nat, List.drop_zero, Nat.sub_zero]
  by_cases h : n ≤ xs.length
  · rw [Nat.min_eq_left h]
  · rw [Nat.min_eq_right (by omega), List.take_length, List.take_of_length_le (by omega)]
theorem cut_from (xs : List V) (n : Nat) : cutV xs (some (n : Int)) none = xs.drop n := by
  unfold cutV
  rw [HT.sIx_none, HT.sIx_nat]
  by_cases h : n ≤ xs.length
  · rw [Nat.min_eq_left h, List.take_of_length_le (by rw [List.length_drop]; omega)]
  · rw [Nat.min_eq_right (by omega), Nat.sub_self, List.take_zero, List.drop_of_length_le (by omega)]
theorem cut_last (xs : List V) : cutV xs (some (-1)) none = xs.drop (xs.length - 1) := by
  unfold cutV
  have e : HT.sIx xs.length 0 (some (-1)) = xs.length - 1 := by
    show (if (-1 : Int) < 0 then ((-1 : Int) + (xs.length : Int)).toNat else min (-1 : Int).toNat xs.length) = xs.length - 1
    rw [if_pos (by decide)]
    omega
  rw [HT.sIx_none, e, List.take_of_length_le (by rw [List.length_drop]; omega)]
section
variable {K : PySem.W.Frag} {d a : Addr} {b : Sd} {p q : Addr} {H : Hp} {c : Nat} {xs ys : List V} {Q : VK}
theorem cat_any (D : Deck d a b H c) (hx : H p = some (.tup xs)) (hy : H q = some (.tup ys)) (np : ¬ Own d a b p) (nq : ¬ Own d a b q) (hz : xs.length + ys.length ≤ sizeLine)
    (k : ∀ H' r, Same H H' → Deck d a b H' c → H' r = some (.tup (xs ++ ys)) → ¬ Own d a b r → Q (.ref r) H') : rCatA K (.ref p) (.ref q) H Q := by
  refine ⟨p, q, xs, ys, rfl, rfl, SqT.of hx, SqT.of hy, hz, fun e => ?_, fun _ e => ?_, fun _ _ r nr => k _ r (same_new nr) (D.new nr) upd_same (D.fresh nr)⟩
  · exact k H q (Same.refl H) D (by rw [hy, e]; rfl) nq
  · exact k H p (Same.refl H) D (by rw [hx, e, List.append_nil]) np
theorem sl_any (lo hi : Option Int) (D : Deck d a b H c) (hx : H p = some (.tup xs)) (np : ¬ Own d a b p)
    (k : ∀ H' r, Same H H' → Deck d a b H' c → H' r = some (.tup (cutV xs lo hi)) → ¬ Own d a b r → Q (.ref r) H') : rSlA K (.ref p) lo hi H Q := by
  refine ⟨p, xs, rfl, SqT.of hx, fun e => ?_, fun _ r nr => k _ r (same_new nr) (D.new nr) upd_same (D.fresh nr)⟩
  refine k H p (Same.refl H) D ?_ np
  unfold cutV
  rw [e.1, e.2, List.drop_zero, Nat.sub_zero, List.take_length]
  exact hx
end
theorem sl_from {K : PySem.W.Frag} {d a : Addr} {b : Sd} {p : Addr} {H : Hp} {c : Nat} {xs : List V} {Q : VK} {σ : L2.St} (lo : Option Int) (D : Deck d a b H c) (hx : H p = some (.tup xs)) (np : ¬ Own d a b p)
    (k : ∀ H' r, Same H H' → Deck d a b H' c → H' r = some (.tup (cutV xs lo none)) → ¬ Own d a b r → Q (.ref r) H') : tNoPart σ H (fun u H3 => rSlA K (.ref p) lo u H3 Q) := sl_any lo none D hx np k
theorem repr_num {i : Int} (h : i.natAbs < 10 ^ 13) : (reprText (Str.ofString (toString i))).length ≤ 152 := by
  have e := StrLaws.reprText_len (Str.ofString (toString i)) (fun c hc => by
    have hc2 : c ∈ ((toString i).toList.map fun ch => ch.toNat) := by
      rw [Str.ofString_eq_toList] at hc
      simpa using hc
    obtain ⟨ch, _, rfl⟩ := List.mem_map.mp hc2
    have h1 : ch.toNat < 1114112 := by
      have := ch.valid
      rcases this with h | h
      · exact Nat.lt_trans h (by decide)
      · exact h.2
    exact Nat.lt_trans h1 (by decide))
  have e2 := int_text_length_le10 (k := 13) (by decide) h
  rw [PySem.ofString_length] at e
  omega
end Fr

set_option Elab.async false
set_option linter.all false
set_option maxRecDepth 100000
namespace Fr
open PySem PySem.Spec PyProof.Rows L2
/-! a value that is a thing fit to be shown -/
def Th (d a : Addr) (b : Sd) (H : Hp) (v : V) : Prop := ∃ x, Dt d a b H v x ∧ Gd x 100000 12
section
variable {d a : Addr} {b : Sd} {p : Addr} {H H' : Hp} {v : V}
theorem Th.keep (k : Kp d a b H H') (h : Th d a b H v) : Th d a b H' v := by
  obtain ⟨x, t, g⟩ := h
  exact ⟨x, Dt.keep k _ _ t, g⟩
theorem Th.of {x : PyData} {n k : Nat} (t : Dt d a b H v x) (g : Gd x n k) (hn : n ≤ 100000) (hk : k ≤ 12) : Th d a b H v := ⟨x, t, g.mono hn hk⟩
theorem bsAll_ints {l : List Int} (h : ∀ i ∈ l, i.natAbs < 10 ^ 13) : bsAll (l.map PyData.int) = true := by
  rw [bsAll_iff]
  intro x hx
  obtain ⟨i, hi, rfl⟩ := List.mem_map.mp hx
  simp only [bs, decide_eq_true_eq]
  exact h i hi
theorem bs_ints {l : List Int} (hl : l.length ≤ 12) (h : ∀ i ∈ l, i.natAbs < 10 ^ 13) : bs (.tuple (l.map PyData.int)) = true := by
  simp only [bs, Bool.and_eq_true, decide_eq_true_eq, List.length_map]
  exact ⟨hl, bsAll_ints h⟩
theorem depth_tup (l : List Int) : (PyData.tuple (l.map PyData.int)).depth = 1 := by
  simp only [PyData.depth, depth_ints]
theorem Dt.ints {l : List Int} (h : H p = some (.tup (l.map V.int))) (n : ¬ Own d a b p) : Dt d a b H (.ref p) (.tuple (l.map PyData.int)) := .tup h n (DtAll.ints l)
theorem Th.ints {l : List Int} (h : H p = some (.tup (l.map V.int))) (n : ¬ Own d a b p) (hl : l.length ≤ 12) (hi : ∀ i ∈ l, i.natAbs < 10 ^ 13) : Th d a b H (.ref p) :=
  Th.of (Dt.ints h n) (bs_gd _ 1 (bs_ints hl hi) (by rw [depth_tup]; exact Nat.le_refl _)).1 (by decide) (by decide)
theorem Th.lints {l : List Int} (h : H p = some (.lst (l.map V.int))) (n : ¬ Own d a b p) (hl : l.length ≤ 12) (hi : ∀ i ∈ l, i.natAbs < 10 ^ 13) : Th d a b H (.ref p) := by
  obtain ⟨g, pl⟩ := bs_gdAll (l.map PyData.int) 0 (bsAll_ints hi) (by rw [depth_ints]; exact Nat.le_refl _)
  refine Th.of (.lst h n (DtAll.ints l)) (gd_lst g pl.d) ?_ (by decide)
  rw [List.length_map]
  have := Nat.mul_le_mul_right (szS 0 + 2) hl
  have e : 12 * (szS 0 + 2) = 780 := by decide
  omega
theorem _root_.Fr.Gd.d30 {x : PyData} (g : Gd x 100000 12) : x.depth ≤ 30 := by have := g.dp; omega
theorem _root_.Fr.Gd.sl {x : PyData} (g : Gd x 100000 12) : x.shown.length ≤ sizeLine := Nat.le_trans g.ln (by decide)
theorem gdb (k : Bool) : Gd (.bool k) 100000 12 := (gd_bl k).mono (by decide) (by decide)
/-- what a rule asks of a thing that is shown -/
theorem Th.show {Q : VK} {x : PyData} (t : Dt d a b H v x) (g : Gd x 100000 12) (q : Q (.str x.shown) H) : rShow [v] H Q :=
  ⟨d, a, b, v, x, rfl, t, g.sh, g.dl, by have := g.dp; omega, Nat.le_trans g.ln (by decide), q⟩
end
theorem Th.side {d a y : Addr} {b : Sd} {H : Hp} {v : V} (hb : b.l = none) (hy : H y = none) (h : Th d a b H v) : Th d a ⟨b.b, some y⟩ H v := by
  obtain ⟨x, t, g⟩ := h
  exact ⟨x, Dt.side hb hy _ _ t, g⟩
theorem Th.put {d a y : Addr} {b : Sd} {H : Hp} {v : V} {o : HO} (hy : Own d a b y) (h : Th d a b H v) : Th d a b (upd H y o) v := by
  obtain ⟨x, t, g⟩ := h
  refine ⟨x, Dt.keepO (fun z u e n => ?_) _ _ t, g⟩
  rw [upd_ne fun w => n (by rw [w]; exact hy)]
  exact e
def Ths (d a : Addr) (b : Sd) (H : Hp) (xs : List V) : Prop := ∀ v ∈ xs, Th d a b H v
theorem Ths.keep {d a : Addr} {b : Sd} {H H' : Hp} {xs : List V} (k : Kp d a b H H') (h : Ths d a b H xs) : Ths d a b H' xs := fun v hv => (h v hv).keep k
end Fr

set_option Elab.async false
set_option linter.all false
set_option maxRecDepth 100000
namespace Fr
open PySem PySem.Spec PyProof.Rows L2
structure CalleeG (P : Program) (w : World) (K : PySem.W.Frag) (mg : Str → Option Value) (base : Heap) (k : Nat) (x : Str) (ps : List Str) (sp : Sp) : Prop where
  ex : ∃ f fd, FnG P w K mg base k f fd ps sp ∧ mg x = some (.ref f) ∧ PySem.W.keepIn K (.ref f) = true ∧ Binds K fd ps []
theorem pe_uG {X : Cx} {k j : Nat} {x : Str} {ps : List Str} {sp : Sp} {p pos : Pos} {e : Expr} {es : List Expr} {t : TA}
    (c : CalleeG X.prog X.w X.K X.mg X.base k x ps sp) (gd : X.A.guards = some []) (hr : Room j X.A) (hg : Gl X x) (ha : PA X (e :: es) t)
    (hkj : k ≤ j := by first | decide | exact Nat.le_refl _) (hdb : (x == ("__debug__" : Str)) = false := by decide)
    (he : starEach (e :: es) X.env = (false, eval e X.env) :: starEach es X.env := by rfl)
    (hpl : (backTo pos (starEach es X.env)).any (·.1) = false := by rfl) :
    PE X (.Call (.Name x p) (e :: es) [] pos) (tCall sp [] E0 t) := by
  obtain ⟨f, fd, F, gf, kf, bf⟩ := c.ex
  exact pe_callG F gd (hr.mono hkj) hg gf kf bf ha hdb he hpl
theorem CalleeG.mk' {P : Program} {w : World} {K : PySem.W.Frag} {mg : Str → Option Value} {base : Heap} {k : Nat} {x q : Str} {st : Stmt} {ps : List Str} {sp : Sp}
    {f : Addr} {fd : FuncData} (F : Fun K x q st f fd) (g : mg x = some (.ref f)) (b : Binds K fd ps [])
    (ok : FnG P w K mg base k f fd ps sp) : CalleeG P w K mg base k x ps sp := ⟨⟨f, fd, ok, g, F.kp, b⟩⟩
end Fr

set_option Elab.async false
set_option linter.all false
set_option maxRecDepth 100000
namespace Fr
open PySem PySem.Spec PyProof.Rows L2
theorem cut_ints (l : List Int) (lo hi : Option Int) : ∃ l' : List Int, cutV (l.map V.int) lo hi = l'.map V.int ∧ (∀ x ∈ l', x ∈ l) ∧ l'.length ≤ l.length := by
  refine ⟨(l.drop (HT.sIx (l.map V.int).length 0 lo)).take (HT.sIx (l.map V.int).length (l.map V.int).length hi - HT.sIx (l.map V.int).length 0 lo), ?_, fun x hx => ?_, ?_⟩
  · unfold cutV
    rw [← List.map_drop, ← List.map_take]
  · exact List.mem_of_mem_drop (List.mem_of_mem_take hx)
  · rw [List.length_take, List.length_drop]
    omega
theorem rep_ints (l : List Int) (n : Nat) : (List.replicate n (l.map V.int)).flatten = ((List.replicate n l).flatten).map V.int := by
  rw [List.map_flatten, List.map_replicate]
theorem mem_rep {l : List Int} {n : Nat} {x : Int} (h : x ∈ (List.replicate n l).flatten) : x ∈ l := by
  obtain ⟨m, hm, hx⟩ := List.mem_flatten.mp h
  rw [List.mem_replicate] at hm
  rw [← hm.2]
  exact hx
section
variable {d a p z : Addr} {b : Sd} {H : Hp} {vs : List V} {xs : List PyData}
/-- a thing as it is drawn -/
theorem Th.bs {v : V} {x : PyData} (t : Dt d a b H v x) (h : bs x = true) (hd : x.depth ≤ 2) : Th d a b H v := Th.of t (bs_gd x 2 h hd).1 (by decide) (by decide)
theorem bs_int {i : Int} (h : i.natAbs < 10 ^ 13) : Fr.bs (.int i) = true := by simpa [Fr.bs] using h
theorem bs_tup {l : List PyData} (h : ∀ x ∈ l, Fr.bs x = true) (hl : l.length ≤ 12) : Fr.bs (.tuple l) = true := by
  simp only [Fr.bs, Bool.and_eq_true, decide_eq_true_eq]
  exact ⟨hl, (bsAll_iff l).mpr h⟩
theorem depth_of {l : List PyData} {n : Nat} (h : ∀ x ∈ l, x.depth ≤ n) : (PyData.tuple l).depth ≤ n + 1 := by
  simp only [PyData.depth]
  have := (depthAll_le l n).mpr h
  omega
theorem depth_int (i : Int) : (PyData.int i).depth = 0 := by simp [PyData.depth]
/-- a house as a thing -/
theorem Dt.house {l : List Int} {k : Int} (h : H p = some (.tup [.ref z, .int k])) (hz : H z = some (.tup (l.map V.int))) (np : ¬ Own d a b p) (nz : ¬ Own d a b z) :
    Dt d a b H (.ref p) (.tuple [.tuple (l.map PyData.int), .int k]) := .tup h np (.cons (.tup hz nz (DtAll.ints l)) (.cons (.int k) .nil))
theorem bs_house {l : List Int} {k : Int} (hl : l.length ≤ 12) (hi : ∀ i ∈ l, i.natAbs < 10 ^ 13) (hk : k.natAbs < 10 ^ 13) : Fr.bs (.tuple [.tuple (l.map PyData.int), .int k]) = true := by
  refine bs_tup ?_ (by show 2 ≤ 12; decide)
  intro x hx
  simp only [List.mem_cons, List.not_mem_nil, or_false] at hx
  rcases hx with e | e <;> rw [e]
  · exact bs_ints hl hi
  · exact bs_int hk
theorem depth_house {l : List Int} {k : Int} : (PyData.tuple [.tuple (l.map PyData.int), .int k]).depth ≤ 2 := by
  refine depth_of (n := 1) ?_
  intro x hx
  simp only [List.mem_cons, List.not_mem_nil, or_false] at hx
  rcases hx with e | e <;> rw [e]
  · rw [depth_tup]; exact Nat.le_refl _
  · rw [depth_int]; exact Nat.zero_le _
theorem Th.house {l : List Int} {k : Int} (h : H p = some (.tup [.ref z, .int k])) (hz : H z = some (.tup (l.map V.int))) (np : ¬ Own d a b p) (nz : ¬ Own d a b z)
    (hl : l.length ≤ 12) (hi : ∀ i ∈ l, i.natAbs < 10 ^ 13) (hk : k.natAbs < 10 ^ 13) : Th d a b H (.ref p) := Th.bs (Dt.house h hz np nz) (bs_house hl hi hk) depth_house
end
end Fr

set_option Elab.async false
set_option linter.all false
set_option maxRecDepth 100000
namespace Fr
open PySem PySem.Spec PyProof.Rows L2
/-! sum of a tuple of numbers -/
def rSumT (K : PySem.W.Frag) : List V → Hp → VK → Prop := fun vs H Q => ∃ (p : Addr) (ns : List Int), vs = [V.ref p] ∧ SqT K H p (ns.map V.int) ∧ Q (.int ns.sum) H
theorem sum_upto (ns : List Int) : ∀ n, preSum (fun i => (ns[i]?).getD 0) n = (ns.take n).sum
  | 0 => by simp [preSum]
  | n + 1 => by
    rw [preSum, sum_upto ns n, List.take_add_one]
    cases h : ns[n]? with
    | none => simp
    | some z => simp [List.sum_append]
theorem cr_sumT {X : Cx} (hc : X.calm = true) : CallR X (.builtin "sum") (rSumT X.K) := by
  intro pins s σ H vs us Q I r h
  obtain ⟨p, ns, rfl, hs, q⟩ := h
  obtain ⟨its, rv, ht, _⟩ := I.tuple hs
  obtain ⟨u, rfl, e⟩ := vals1 r
  have e : u = Value.ref p := e
  subst e
  have tup : s.heap.IsTuple p its.toArray := ht
  have lt : p < s.heap.objs.size := by
    obtain ⟨o, ho, _⟩ := id tup
    exact Heap.lt_size ho
  have tup2 : (s.heap.push { cls := .type "tuple_iterator", data := .fields #[.ref p, .int 0 0] }).IsTuple p its.toArray := by
    obtain ⟨o, ho, z⟩ := id tup
    exact ⟨o, Heap.get?_push_of_some _ ho, z⟩
  refine call_sum_walkG (wpAny_pyIter_tuple tup ⟨_, _, _, _, _, _, fun i => (ns[i]?).getD 0, rfl, Walks.tuple (A := X.A.in1) (I.ok.hd hc) s.heap.objs.size p (Nat.ne_of_lt lt) its.toArray,
    ⟨⟨_, Heap.get?_push_size _ rfl, rfl, rfl⟩, tup2⟩, fun b hb => ?_, fun i v hv => ?_, fun h' tk t' hk => ?_⟩)
  · show b < (s.heap.push _).objs.size
    rw [Heap.size_push]
    simp only [List.mem_cons, List.not_mem_nil, or_false] at hb
    rcases hb with e | e
    · rw [e]; exact Nat.lt_succ_self _
    · rw [e]; exact Nat.lt_succ_of_lt lt
  · have hl := rv.length
    have hi : i < ns.length := by
      have := (Array.getElem?_eq_some_iff.mp hv).1
      rw [List.size_toArray] at this
      rw [List.length_map] at hl
      omega
    obtain ⟨u, hu, ru⟩ := rv.get (i := i) (x := .int ns[i]) (by rw [List.getElem?_map, List.getElem?_eq_getElem hi]; rfl)
    have e1 : its.toArray[i]? = some u := by simpa using hu
    rw [hv] at e1
    obtain ⟨t, et⟩ := ru
    refine ⟨t, ?_⟩
    rw [Option.some.inj e1, et]
    show Value.int ns[i] t = Value.int ((ns[i]?).getD 0) t
    rw [List.getElem?_eq_getElem hi]
    rfl
  · have e1 : preSum (fun i => (ns[i]?).getD 0) its.toArray.size = ns.sum := by
      have hl := rv.length
      rw [List.length_map] at hl
      rw [sum_upto, List.size_toArray, ← hl, List.take_length]
    rw [e1]
    refine ⟨.int ns.sum, H, I.kept fun b o e => hk b o (fun hm => ?_) (Heap.get?_push_of_some _ e), ⟨t', rfl⟩, q⟩
    have := List.mem_singleton.mp hm
    exact absurd (this ▸ Heap.lt_size e) (Nat.lt_irrefl _)
end Fr

set_option Elab.async false
set_option linter.all false
set_option maxRecDepth 100000
namespace Fr
open PySem PySem.Spec PyProof.Rows L2
/-! t * 1 is t itself, t * 0 is () -/
theorem mul_one_tup (l : Addr) (items : Array Value) (n : Nat) (dd : Option Addr) (sl : Array (Option Value)) (u : Tok) (c1 : (items.isEmpty || (1 : Int) == 1) = true) :
    Meets (Builtin.«tuple.__mul__» ⟨[.ref l, .int 1 u], []⟩) (fun _ R s => s.heap.get? l = some { cls := .type "tuple", dict := dd, data := .seq items n, slots := sl } ∧
      R (.ok (.ret (Value.ref l))) s) :=
  .of_wp fun prog w A R s h => by
    obtain ⟨hp, g, d, tk, os⟩ := s
    obtain ⟨hl, h⟩ := h
    have f1 := AutoSeq1.idx_int
    wp_walk using wpAny_loadPart' hl
    repeat (first
      | (refine wpAny_ite_false (decide_eq_false (by decide)) ?_; wp_walk using wpAny_loadPart' hl)
      | (refine wpAny_ite_true (decide_eq_true (by rw [c1])) ?_; wp_walk using wpAny_loadPart' hl)
      | (refine wpAny_ite_true (decide_eq_true (by decide)) ?_; wp_walk using wpAny_loadPart' hl))
    exact ⟨_, rfl, h⟩
theorem mul_zero_tup (l : Addr) (items : Array Value) (n : Nat) (dd : Option Addr) (sl : Array (Option Value)) (u : Tok) (c1 : (items.isEmpty || (0 : Int) == 1) = false) (c2 : (decide ((0 : Int) ≤ 0) || items.isEmpty) = true) :
    Meets (Builtin.«tuple.__mul__» ⟨[.ref l, .int 0 u], []⟩) (fun _ R s => s.heap.get? l = some { cls := .type "tuple", dict := dd, data := .seq items n, slots := sl } ∧
      R (.ok (.ret (Value.ref s.heap.objs.size))) { s with heap := s.heap.push { cls := Value.type "tuple", data := Data.seq #[] }, toks := s.toks }) :=
  .of_wp fun prog w A R s h => by
    obtain ⟨hp, g, d, tk, os⟩ := s
    obtain ⟨hl, h⟩ := h
    have f1 := AutoSeq1.idx_int
    wp_walk using wpAny_loadPart' hl
    repeat (first
      | (refine wpAny_ite_false (decide_eq_false (by decide)) ?_; wp_walk using wpAny_loadPart' hl)
      | (refine wpAny_ite_false (decide_eq_false (by rw [c1]; exact Bool.false_ne_true)) ?_; wp_walk using wpAny_loadPart' hl)
      | (refine wpAny_ite_true (decide_eq_true (by rw [c2])) ?_; wp_walk using wpAny_loadPart' hl)
      | (refine wpAny_ite_true (decide_eq_true (by decide)) ?_; wp_walk using wpAny_loadPart' hl))
    exact ⟨_, rfl, h⟩
/-- t * k, k from 0 on -/
def rRepA (K : PySem.W.Frag) : R2 := fun x y H Q => ∃ l k xs, x = .ref l ∧ y = .int k ∧ SqT K H l xs ∧ xs ≠ [] ∧ 0 ≤ k ∧ k ≤ 1000 ∧ xs.length ≤ 1000 ∧
  (k = 1 → Q (.ref l) H) ∧ (k ≠ 1 → ∀ p, H p = none → Q (.ref p) (upd H p (.tup (List.replicate k.toNat xs).flatten)))
theorem op_repA {X : Cx} : OpR X (binaryOp .Mult) (rRepA X.K) := by
  intro pins s σ H x y v u Q I rx ry h
  obtain ⟨l, k, xs, rfl, rfl, hT, hne, h0, h2, hz, q1, q2⟩ := h
  by_cases hk : 2 ≤ k
  · exact op_repT pins s σ H _ _ v u Q I rx ry ⟨l, k, xs, rfl, rfl, hT, hne, hk, h2, hz, q2 (by omega)⟩
  · cases rx
    obtain ⟨t, rfl⟩ := ry
    obtain ⟨its, r, ⟨⟨cls, dd, data, sl⟩, ho, hc, n, hd⟩, hs⟩ := I.tuple hT
    simp only at hc hd
    subst hc hd
    have hi : its.toArray.isEmpty = false := by
      cases its with
      | nil => exact absurd (List.eq_nil_of_length_eq_zero r.length) hne
      | cons _ _ => rfl
    by_cases e1 : k = 1
    · subst e1
      exact wpAny_binaryOp_repeat_ref (T := "tuple") (U := "int") (by decide) ⟨_, ho, rfl⟩ (fun s' => typeIs_int s' 1 t) noFill_tuple_mul F.fills_int_mul F.slot_int_rmul repeat_tuple F.slot_int_index.lookup
        (call_meets F.slot_int_rmul (typeIs_int s 1 t) F.entry_int_rmul (F.args_int_rmul_2 _ _) (int_rmul_tuple 1 t l its.toArray n dd sl)
          ⟨ho, rfl, ⟨_, ho, rfl⟩, call_meets F.slot_tuple_mul ⟨_, ho, rfl⟩ F.entry_tuple_mul (F.args_tuple_mul_2 _ _) (mul_one_tup l its.toArray n dd sl t (by simp)) ⟨ho, .ref l, H, I, rfl, q1 rfl⟩⟩)
    · obtain rfl : k = 0 := by omega
      refine wpAny_binaryOp_repeat_ref (T := "tuple") (U := "int") (by decide) ⟨_, ho, rfl⟩ (fun s' => typeIs_int s' 0 t) noFill_tuple_mul F.fills_int_mul F.slot_int_rmul repeat_tuple F.slot_int_index.lookup
        (call_meets F.slot_int_rmul (typeIs_int s 0 t) F.entry_int_rmul (F.args_int_rmul_2 _ _) (int_rmul_tuple 0 t l its.toArray n dd sl)
          ⟨ho, rfl, ⟨_, ho, rfl⟩, call_meets F.slot_tuple_mul ⟨_, ho, rfl⟩ F.entry_tuple_mul (F.args_tuple_mul_2 _ _) (mul_zero_tup l its.toArray n dd sl t (by rw [hi]; rfl) (by simp)) ⟨ho, ?_⟩⟩)
      refine ⟨.ref s.heap.objs.size, _, I.laid (t' := s.toks) (o := .tup []) (fun b ob z => Heap.get?_push_of_some _ z) (Nat.le_refl _) ?_, rfl, q2 (by decide) _ (I.hok.fresh (Nat.le_refl _))⟩
      exact ⟨Nat.zero_le _, [], .nil, IsTup.new _ _⟩
end Fr

set_option Elab.async false
set_option linter.all false
set_option maxRecDepth 100000
namespace Fr
open PySem PySem.Spec PyProof.Rows L2
/-! rules whose readings are named, for use within comprehensions -/
def rLen (K : PySem.W.Frag) : List V → Hp → VK → Prop := fun xs H Q => ∃ p ys, xs = [.ref p] ∧ (SqL K H p ys ∨ SqT K H p ys) ∧ Q (.int ys.length) H
theorem call_lenK {X : Cx} : CallR X (.builtin "len") (rLen X.K) := call_len_seq
def rTupOf (K : PySem.W.Frag) : List V → Hp → VK → Prop := fun xs H Q => ∃ p ys, xs = [.ref p] ∧ ((SqL K H p ys ∧ ∀ l, H l = none → Q (.ref l) (upd H l (.tup ys))) ∨ (SqT K H p ys ∧ Q (.ref p) H))
theorem call_tupK {X : Cx} : CallR X (.type "tuple") (rTupOf X.K) := call_tuple_of
def rLstOf (K : PySem.W.Frag) : List V → Hp → VK → Prop := fun xs H Q => ∃ p ys, xs = [.ref p] ∧ (SqL K H p ys ∨ SqT K H p ys) ∧ ∀ l, H l = none → Q (.ref l) (upd H l (.lst ys))
theorem call_lstK {X : Cx} : CallR X (.type "list") (rLstOf X.K) := call_list_of
/-! stands: a tuple of rows -/
def RowAt (d a : Addr) (b : Sd) (H : Hp) (v : V) (row : List Int) : Prop := ∃ q, v = .ref q ∧ H q = some (.tup (row.map V.int)) ∧ ¬ Own d a b q
inductive Rws (d a : Addr) (b : Sd) (H : Hp) : List V → List (List Int) → Prop
  | nil : Rws d a b H [] []
  | cons {v : V} {vs : List V} {r : List Int} {rs : List (List Int)} : RowAt d a b H v r → Rws d a b H vs rs → Rws d a b H (v :: vs) (r :: rs)
section
variable {d a p : Addr} {b : Sd} {H H' : Hp} {vs ws : List V} {rs ts : List (List Int)}
theorem Rws.length : ∀ {vs : List V} {rs : List (List Int)}, Rws d a b H vs rs → vs.length = rs.length
  | _, _, .nil => rfl
  | _, _, .cons _ r => by rw [List.length_cons, List.length_cons, Rws.length r]
theorem Rws.keepO (k : ∀ x o, H x = some o → ¬ Own d a b x → H' x = some o) : ∀ {vs : List V} {rs : List (List Int)}, Rws d a b H vs rs → Rws d a b H' vs rs
  | _, _, .nil => .nil
  | _, _, .cons ⟨q, e, h, n⟩ r => .cons ⟨q, e, k _ _ h n, n⟩ (Rws.keepO k r)
theorem Rws.keep (k : Kp d a b H H') (r : Rws d a b H vs rs) : Rws d a b H' vs rs := r.keepO fun x o h n => k x o h n
/-- a list of one's own is changed -/
theorem Rws.put {xs ys : List V} (hp : H p = some (.lst xs)) : ∀ {vs : List V} {rs : List (List Int)}, Rws d a b H vs rs → Rws d a b (upd H p (.lst ys)) vs rs
  | _, _, .nil => .nil
  | _, _, .cons ⟨q, e, h, n⟩ r => .cons ⟨q, e, by rw [upd_ne (ne_of h hp (by intro z; cases z))]; exact h, n⟩ (Rws.put hp r)
theorem Rws.append : ∀ {vs ws : List V} {rs ts : List (List Int)}, Rws d a b H vs rs → Rws d a b H ws ts → Rws d a b H (vs ++ ws) (rs ++ ts)
  | _, _, _, _, .nil, s => s
  | _, _, _, _, .cons h r, s => .cons h (Rws.append r s)
theorem Rws.get : ∀ {vs : List V} {rs : List (List Int)} {i : Nat} {v : V}, Rws d a b H vs rs → vs[i]? = some v → ∃ r, rs[i]? = some r ∧ RowAt d a b H v r
  | _, _, _, _, .nil, e => by simp at e
  | _, _, 0, _, .cons h _, e => by
    have e1 := Option.some.inj e
    subst e1
    exact ⟨_, rfl, h⟩
  | _, _, i + 1, v, .cons _ r, e => Rws.get (i := i) r e
theorem Rws.at : ∀ {vs : List V} {rs : List (List Int)} {i : Nat} {r : List Int}, Rws d a b H vs rs → rs[i]? = some r → ∃ v, vs[i]? = some v ∧ RowAt d a b H v r
  | _, _, _, _, .nil, e => by simp at e
  | _, _, 0, _, .cons h _, e => by
    have e1 := Option.some.inj e
    subst e1
    exact ⟨_, rfl, h⟩
  | _, _, i + 1, v, .cons _ r, e => Rws.at (i := i) r e
theorem Rws.dt : ∀ {vs : List V} {rs : List (List Int)}, Rws d a b H vs rs → DtAll d a b H vs (rs.map fun r => .tuple (r.map .int))
  | _, _, .nil => .nil
  | _, _, .cons ⟨q, e, h, n⟩ r => .cons (e ▸ .tup h n (DtAll.ints _)) (Rws.dt r)
theorem Rws.side {y : Addr} (hy : H y = none) : ∀ {vs : List V} {rs : List (List Int)}, Rws d a b H vs rs → Rws d a ⟨b.b, some y⟩ H vs rs
  | _, _, .nil => .nil
  | _, _, .cons ⟨q, e, h, n⟩ r => .cons ⟨q, e, h, side_no hy h n⟩ (Rws.side hy r)
end
/-- a stand at p -/
structure Snd (d a : Addr) (b : Sd) (H : Hp) (p : Addr) (rs : List (List Int)) : Prop where
  ex : ∃ vs, H p = some (.tup vs) ∧ Rws d a b H vs rs
  no : ¬ Own d a b p
section
variable {d a p y : Addr} {b : Sd} {H H' : Hp} {rs : List (List Int)}
theorem Snd.keep (s : Snd d a b H p rs) (k : Kp d a b H H') : Snd d a b H' p rs := by
  obtain ⟨vs, h, r⟩ := s.ex
  exact ⟨⟨vs, k _ _ h s.no, r.keep k⟩, s.no⟩
theorem Snd.dt (s : Snd d a b H p rs) : Dt d a b H (.ref p) (.tuple (rs.map fun r => .tuple (r.map .int))) := by
  obtain ⟨vs, h, r⟩ := s.ex
  exact .tup h s.no r.dt
theorem Snd.side (s : Snd d a b H p rs) (hy : H y = none) : Snd d a ⟨b.b, some y⟩ H p rs := by
  obtain ⟨vs, h, r⟩ := s.ex
  exact ⟨⟨vs, h, r.side hy⟩, side_no hy h s.no⟩
end
/-- the numbers of a stand -/
structure OkS (sizes : List Int) (kinds : Int) (rs : List (List Int)) : Prop where
  len : rs.length = sizes.length
  row : ∀ (i : Nat) (z : Int) (r : List Int), sizes[i]? = some z → rs[i]? = some r → r.length = kinds.toNat ∧ (∀ x ∈ r, 0 ≤ x) ∧ r.sum ≤ z
theorem sum_nn' {l : List Int} (h : ∀ x ∈ l, 0 ≤ x) : 0 ≤ l.sum := by
  induction l with
  | nil => exact Int.le_refl _
  | cons x l ih =>
    rw [List.sum_cons]
    have h1 := h x List.mem_cons_self
    have h2 := ih fun y hy => h y (List.mem_cons_of_mem _ hy)
    omega
theorem mem_sum {l : List Int} (h : ∀ x ∈ l, 0 ≤ x) {y : Int} (hy : y ∈ l) : y ≤ l.sum := by
  induction l with
  | nil => cases hy
  | cons x l ih =>
    rw [List.sum_cons]
    have h1 := h x List.mem_cons_self
    have hl : ∀ z ∈ l, 0 ≤ z := fun z hz => h z (List.mem_cons_of_mem _ hz)
    have h2 := sum_nn' hl
    rcases List.mem_cons.mp hy with e | e
    · omega
    · have := ih hl e
      omega
/-- all its numbers are small -/
def Sml (rs : List (List Int)) : Prop := rs.length ≤ 12 ∧ ∀ r ∈ rs, r.length ≤ 12 ∧ ∀ x ∈ r, x.natAbs < 10 ^ 13
theorem OkS.sml {sizes : List Int} {kinds : Int} {rs : List (List Int)} (o : OkS sizes kinds rs) (hl : sizes.length ≤ 9) (hk : kinds ≤ 6) (hz : ∀ s ∈ sizes, 1 ≤ s ∧ s ≤ 10 ^ 12) : Sml rs := by
  refine ⟨by rw [o.len]; omega, fun r hr => ?_⟩
  obtain ⟨i, hi⟩ := List.getElem?_of_mem hr
  have hi2 : i < sizes.length := by rw [← o.len]; exact (List.getElem?_eq_some_iff.mp hi).1
  have e := List.getElem?_eq_getElem hi2
  obtain ⟨h1, h2, h3⟩ := o.row i _ r e hi
  have hs := hz _ (List.getElem_mem hi2)
  refine ⟨by omega, fun x hx => ?_⟩
  have := h2 x hx
  have := mem_sum h2 hx
  omega
theorem Sml.bs {rs : List (List Int)} (s : Sml rs) : Fr.bs (.tuple (rs.map fun r => .tuple (r.map .int))) = true := by
  refine bs_tup (fun x hx => ?_) (by rw [List.length_map]; exact s.1)
  obtain ⟨r, hr, rfl⟩ := List.mem_map.mp hx
  exact bs_ints (s.2 r hr).1 (s.2 r hr).2
theorem Sml.depth {rs : List (List Int)} : (PyData.tuple (rs.map fun r => .tuple (r.map .int))).depth ≤ 2 := by
  refine depth_of (n := 1) fun x hx => ?_
  obtain ⟨r, hr, rfl⟩ := List.mem_map.mp hx
  exact Nat.le_of_eq (depth_tup r)
theorem Snd.th {d a p : Addr} {b : Sd} {H : Hp} {rs : List (List Int)} (s : Snd d a b H p rs) (m : Sml rs) : Th d a b H (.ref p) := Th.bs s.dt m.bs Sml.depth
section
variable {K : PySem.W.Frag} {d a p : Addr} {b : Sd} {H : Hp} {c : Nat} {xs : List V} {Q : VK} {n : Int}
theorem rep_any (D : Deck d a b H c) (hx : H p = some (.tup xs)) (np : ¬ Own d a b p) (h0 : xs ≠ []) (n0 : 0 ≤ n) (n1 : n ≤ 1000) (hl : xs.length ≤ 1000)
    (k : ∀ H' r, Same H H' → Deck d a b H' c → H' r = some (.tup (List.replicate n.toNat xs).flatten) → ¬ Own d a b r → Q (.ref r) H') : rRepA K (.ref p) (.int n) H Q := by
  refine ⟨p, n, xs, rfl, rfl, SqT.of hx, h0, n0, n1, hl, fun e => ?_, fun _ r nr => k _ r (same_new nr) (D.new nr) upd_same (D.fresh nr)⟩
  subst e
  refine k H p (Same.refl H) D ?_ np
  rw [hx]
  show _ = some (HO.tup (List.replicate 1 xs).flatten)
  simp
end
theorem cut_butlast (xs : List V) : cutV xs none (some (-1)) = xs.take (xs.length - 1) := by
  unfold cutV
  have e : HT.sIx xs.length xs.length (some (-1)) = xs.length - 1 := by
    show (if (-1 : Int) < 0 then ((-1 : Int) + (xs.length : Int)).toNat else min (-1 : Int).toNat xs.length) = xs.length - 1
    rw [if_pos (by decide)]
    omega
  rw [HT.sIx_none, e, List.drop_zero, Nat.sub_zero]
section
variable {d a : Addr} {b : Sd} {H : Hp}
theorem Rws.take : ∀ {vs : List V} {rs : List (List Int)} (n : Nat), Rws d a b H vs rs → Rws d a b H (vs.take n) (rs.take n)
  | _, _, 0, _ => .nil
  | _, _, _ + 1, .nil => .nil
  | _, _, n + 1, .cons h r => .cons h (Rws.take n r)
theorem Rws.drop : ∀ {vs : List V} {rs : List (List Int)} (n : Nat), Rws d a b H vs rs → Rws d a b H (vs.drop n) (rs.drop n)
  | _, _, 0, r => r
  | _, _, _ + 1, .nil => .nil
  | _, _, n + 1, .cons _ r => Rws.drop n r
theorem Rws.same {q : Addr} {r : List Int} (h : H q = some (.tup (r.map V.int))) (n : ¬ Own d a b q) : ∀ m : Nat, Rws d a b H (List.replicate m [V.ref q]).flatten (List.replicate m r)
  | 0 => .nil
  | m + 1 => .cons ⟨q, rfl, h, n⟩ (Rws.same h n m)
end
theorem Sml.sub {rs ts : List (List Int)} (s : Sml rs) (h : ∀ r ∈ ts, r ∈ rs) (hl : ts.length ≤ 12) : Sml ts := ⟨hl, fun r hr => s.2 r (h r hr)⟩
/-! what is shown in few signs has few items -/
theorem lens_le (ts : List Str) : 2 * ts.length ≤ piled ts := by
  induction ts with
  | nil => exact Nat.zero_le _
  | cons t r ih =>
    simp only [piled, List.map_cons, List.sum_cons, List.length_cons] at ih ⊢
    omega
theorem shownAll_len : ∀ xs : List PyData, (PyData.shownAll xs).length = xs.length
  | [] => by simp [PyData.shownAll]
  | x :: xs => by simp [PyData.shownAll, shownAll_len xs]
theorem mem_shown : ∀ {xs : List PyData} {x : PyData}, x ∈ xs → x.shown ∈ PyData.shownAll xs
  | y :: ys, x, h => by
    simp only [PyData.shownAll]
    rcases List.mem_cons.mp h with e | e
    · rw [e]; exact List.mem_cons_self
    · exact List.mem_cons_of_mem _ (mem_shown e)
theorem tup_few {xs : List PyData} {n : Nat} (h : (PyData.tuple xs).shown.length ≤ n) : xs.length ≤ n := by
  simp only [PyData.shown] at h
  have h1 := piled_le_tupleText (PyData.shownAll xs)
  have h2 := lens_le (PyData.shownAll xs)
  rw [shownAll_len] at h2
  omega
theorem Sml.set {rs : List (List Int)} {r : List Int} (s : Sml rs) (i : Nat) (h1 : r.length ≤ 12) (h2 : ∀ x ∈ r, x.natAbs < 10 ^ 13) : Sml (rs.set i r) := by
  refine ⟨by rw [List.length_set]; exact s.1, fun t ht => ?_⟩
  rcases List.mem_or_eq_of_mem_set ht with e | e
  · exact s.2 t e
  · rw [e]; exact ⟨h1, h2⟩
theorem Sml.putn {rs : List (List Int)} {r : List Int} {i k : Nat} {x m : Int} (s : Sml rs) (hr : rs[i]? = some r) (hm : (x + m).natAbs < 10 ^ 13) : Sml (rs.set i (r.set k (x + m))) := by
  have h := s.2 r (List.mem_of_getElem? hr)
  refine s.set i (by rw [List.length_set]; exact h.1) fun y hy => ?_
  rcases List.mem_or_eq_of_mem_set hy with e | e
  · exact h.2 y e
  · rw [e]; exact hm
theorem Sml.lst {d a p : Addr} {b : Sd} {H : Hp} {vs : List V} {rs : List (List Int)} (s : Sml rs) (h : H p = some (.lst vs)) (n : ¬ Own d a b p) (r : Rws d a b H vs rs) : Th d a b H (.ref p) := by
  have hb : bsAll (rs.map fun r => .tuple (r.map .int)) = true := by
    rw [bsAll_iff]
    intro x hx
    obtain ⟨t, ht, rfl⟩ := List.mem_map.mp hx
    exact bs_ints (s.2 t ht).1 (s.2 t ht).2
  have hd : PyData.depthAll (rs.map fun r => .tuple (r.map .int)) ≤ 1 := by
    rw [depthAll_le]
    intro x hx
    obtain ⟨t, _, rfl⟩ := List.mem_map.mp hx
    exact Nat.le_of_eq (depth_tup t)
  obtain ⟨g, pl⟩ := bs_gdAll _ 1 hb hd
  refine Th.of (.lst h n r.dt) (gd_lst g pl.d) ?_ (by decide)
  rw [List.length_map]
  have := Nat.mul_le_mul_right (szS 1 + 2) s.1
  have e : 12 * (szS 1 + 2) = 9420 := by decide
  omega
end Fr

set_option Elab.async false
set_option linter.all false
set_option maxRecDepth 100000
namespace Fr
open PySem PySem.Spec PyProof.Rows L2
/-! enumerate(t) of a tuple -/
abbrev itObj (t : Addr) : Obj := { cls := .type "tuple_iterator", data := .fields #[.ref t, .int 0 0] }
abbrev enObj (i : Addr) : Obj := { cls := .type "enumerate", data := .fields #[.none, .bool false, .ref i, rawInt 0, .none, .none] }
set_option maxHeartbeats 1000000 in
theorem enum_made (t : Addr) (items : Array Value) :
    Meets (Builtin.«enumerate.__new__» ⟨[.type "enumerate", .ref t], []⟩) (fun _ R s => s.heap.IsTuple t items ∧
      R (.ok (.ret (.ref (s.heap.push (itObj t)).objs.size))) { s with heap := (s.heap.push (itObj t)).push (enObj s.heap.objs.size) }) :=
  .of_wp fun prog w A R s h => by
    obtain ⟨hp, g, dd, tk, os⟩ := s
    obtain ⟨h1, h⟩ := h
    have hsub := sub_enumerate
    have q1 : ∀ {A' : Around} {E : Value → Shared → Prop} {Q : Value → Shared → Prop}, Q (.ref hp.objs.size) ⟨hp.push (itObj t), g, dd, tk, os⟩ →
        wpAny (model prog w) A' (pyIter (.ref t)) Q E ⟨hp, g, dd, tk, os⟩ := fun q => wpAny_pyIter_tuple (s := ⟨hp, g, dd, tk, os⟩) h1 q
    wp_walk using q1
    refine wpAny_stack_any fun st => wpAny_pure ?_
    split
    · rename_i c _ _ _ _ _
      cases (c == Value.type "enumerate") <;> (wp_walk using q1; exact ⟨_, rfl, h⟩)
    · wp_walk using q1
      exact ⟨_, rfl, h⟩
theorem call_enum_tup {prog : Program} {w : World} {A : Around} {E : Value → Shared → Prop} {s : Shared} {t : Addr} {items : Array Value} {Q : Value → Shared → Prop} (ht : s.heap.IsTuple t items)
    (h : ∀ h', IsEnum h' (s.heap.objs.size + 1) s.heap.objs.size 0 .none → h'.IsTupleIter s.heap.objs.size t 0 → (∀ b o, s.heap.get? b = some o → h'.get? b = some o) →
      Q (.ref (s.heap.objs.size + 1)) { s with heap := h' }) : wpAny (model prog w) A (call (.type "enumerate") [.ref t]) Q E s := by
  refine callType_new F.called_enumerate (by decide) (F.typeCall_enumerate_1 _) (F.newCall_enumerate_1 _) (fun obj => F.args_object_init_2 obj _) F.entry_enumerate_new (enum_made t items) ⟨ht, ?_⟩
  have sz : (s.heap.push (itObj t)).objs.size = s.heap.objs.size + 1 := Heap.size_push ..
  show _ ∧ _
  rw [sz]
  have he : ((s.heap.push (itObj t)).push (enObj s.heap.objs.size)).get? (s.heap.objs.size + 1) = some (enObj s.heap.objs.size) := by
    have e := Heap.get?_push_size (s.heap.push (itObj t)) (o := enObj s.heap.objs.size) rfl
    rwa [sz] at e
  exact ⟨⟨_, he, rfl⟩, h _ he ⟨_, Heap.get?_push_of_some _ (Heap.get?_push_size _ rfl), rfl, rfl⟩ fun b o x => Heap.get?_push_of_some _ (Heap.get?_push_of_some _ x)⟩
/-- the tuple at a, each item in a new pair with its place -/
def ItN (K : PySem.W.Frag) (a : Addr) : It :=
  ⟨fun i H => ∃ (xs : List V) (x : V), SqT K H a xs ∧ xs[i]? = some x,
    fun i H v H' => ∃ T x, v = .ref T ∧ H T = none ∧ H' = upd H T (.tup [.int (i : Nat), x]) ∧ ∀ xs, SqT K H a xs → xs[i]? = some x,
    fun i H => ∃ xs : List V, SqT K H a xs ∧ xs.length = i⟩
theorem turn_enumT {P : Program} {w : World} {K : PySem.W.Frag} {elts : List Expr} {kk : Nat} {tpos : Pos} (a e it : Addr) :
    Turn P w K (.Tuple elts kk tpos) (ItN K a) [e, it] e (fun i h => (∃ old, IsEnum h e it ((i : Nat) : Int) old) ∧ h.IsTupleIter it a i ∧ e ≠ it ∧ a ≠ it ∧ e ≠ a) where
  mem := by simp
  obj := fun i h st c hc => by
    obtain ⟨⟨old, he⟩, ⟨o, ho, _, hd⟩, _⟩ := st
    rcases (show c = e ∨ c = it by simpa using hc) with z | z
    · rw [z]
      exact ⟨_, he, fun v q => nomatch q⟩
    · rw [z]
      exact ⟨o, ho, fun v q => by rw [hd] at q; cases q⟩
  keep := fun i h h' st k => by
    obtain ⟨⟨old, he⟩, hi, n⟩ := st
    exact ⟨⟨old, k e (by simp) _ he⟩, hi.at fun o q => k it (by simp) o q, n⟩
  item := by
    intro X hP hw hK hc i pins s σ H E I hf st hg
    subst hP hw hK
    obtain ⟨⟨old, he⟩, hit, n1, n2, n3⟩ := st
    obtain ⟨xs, x, hq, hx⟩ := hg
    obtain ⟨its, rv, tp, hz⟩ := I.tuple hq
    obtain ⟨u, hu, ru⟩ := rv.get hx
    have lt_e : e < s.heap.objs.size := Heap.lt_size he
    have lt_i : it < s.heap.objs.size := by
      obtain ⟨_, z, _⟩ := id hit
      exact Heap.lt_size z
    have hil : i < its.toArray.size := by
      rw [List.size_toArray]
      exact (List.getElem?_eq_some_iff.mp hu).1
    refine wpAny_pyNext_enum_itemD (Draws.tuple (A := X.A.in1) (I.ok.hd hc) it a n2 its.toArray) he ⟨hit, tp⟩ hil n1 (by simp [n1, n3]) fun y h' tk hy ho st' hT hsz hk => ?_
    have ey : y = u := by
      have : its.toArray[i]? = some u := by simpa using hu
      rw [this] at hy
      exact (Option.some.inj hy).symm
    subst ey
    refine ⟨_, rfl, wpAny_letOwnedTupleGo_enum (s := { s with heap := h', toks := tk + 1 }) ho fun h2 he2 sb => ?_⟩
    have hT2 := (sb.2 _ (Nat.ne_of_gt lt_e)).trans hT
    have new : ObjOk X.prog X.w (upd H s.heap.objs.size (.tup [.int (i : Nat), x])) h2 s.heap.objs.size (.tup [.int (i : Nat), x]) :=
      ⟨by show 2 ≤ sizeLine; decide, [.int i tk, y], .cons ⟨_, rfl⟩ (.cons ru .nil), ⟨_, hT2, rfl, _, rfl⟩⟩
    have J := I.turnedNew (h' := h2) (t' := tk + 1) (ch := [e, it]) (fun c ob hb z => (sb.2 c fun w' => hb (by simp [w'])).trans (hk c ob (fun w' => hb (by simp [w'])) (fun w' => hb (by simp [w'])) z)) hf (Nat.le_refl _) new
    refine ⟨.ref s.heap.objs.size, _, J, rfl, ⟨_, x, rfl, I.hok.fresh (Nat.le_refl _), rfl, fun ys hy2 => by rw [I.tuple_inj hy2 hq]; exact hx⟩,
      ⟨⟨y, ?_⟩, st'.1.at fun o z => (sb.2 it (Ne.symm n1)).trans z, n1, n2, n3⟩, fun c hc2 => ?_⟩
    · rw [show ((i + 1 : Nat) : Int) = (i : Int) + 1 by omega]
      exact he2
    · have lt_c : c < s.heap.objs.size := by
        rcases (show c = e ∨ c = it by simpa using hc2) with z | z <;> rw [z] <;> assumption
      rw [upd_ne (Nat.ne_of_lt lt_c)]
      exact (hf c hc2).1
  done := by
    intro X hP hw hK hc i pins s σ H E I hf st hg
    subst hP hw hK
    obtain ⟨⟨old, he⟩, hit, n1, n2, n3⟩ := st
    obtain ⟨xs, hq, hx⟩ := hg
    obtain ⟨its, rv, tp, hz⟩ := I.tuple hq
    obtain ⟨f0, f1, f2, f3, f4, f5⟩ := hf it (by simp)
    have hl := rv.length
    have ei : i = its.toArray.size := by rw [List.size_toArray]; omega
    subst ei
    exact wpAny_pyNext_enum_endD (Draws.tuple (A := X.A.in1) (I.ok.hd hc) it a n2 its.toArray) he ⟨hit, tp⟩ fun h' eb => ⟨rfl, I.turned (t' := s.toks) (fun c o hb z => eb c o hb z) f0 f1 f3 f4 f5⟩
  self := fun A i s Q E st h => let ⟨⟨_, he⟩, _⟩ := st; wpAny_pyIter_enum he h
def iEnumT (K : PySem.W.Frag) (ta : TA) : TI := fun σ H R => ta σ H fun vs H1 => ∃ a xs, vs = [.ref a] ∧ SqT K H1 a xs ∧ R (ItN K a) H1
theorem pi_enumT {X : Cx} {e : Expr} {ta : TA} {p pos tpos : Pos} {elts : List Expr} {kk : Nat} (hg : Gl X "enumerate") (hm : X.mg "enumerate" = none) (ha : PA X [e] ta)
    (hs : starEach [e] X.env = [(false, eval e X.env)] := by rfl) : PI X (.Tuple elts kk tpos) (.Call (.Name "enumerate" p) [e] [] pos) (iEnumT X.K ta) := by
  refine ⟨fun pins s σ H R I h => Call_ (ld_blt I hg hm boot_enumerate (callWith_type1 (thn (ha.run pos pins s σ H _ I h) fun us s1 ⟨vs, H1, I1, r1, a, xs, ex, hq, q⟩ => ?_) hs rfl))⟩
  subst ex
  obtain ⟨u, rfl, ru⟩ := vals1 r1
  have ru : u = Value.ref a := ru
  subst ru
  obtain ⟨its, rv, tp, hz⟩ := I1.tuple hq
  have lt_a : a < s1.heap.objs.size := by
    obtain ⟨o, ho, _⟩ := id tp
    exact Heap.lt_size ho
  refine call_enum_tup (items := its.toArray) tp fun h' he hit hk => wpAny_pyIter_enum he ?_
  have J : Inv X pins σ H1 { s1 with heap := h' } := I1.kept (t' := s1.toks) hk
  refine ⟨s1.heap.objs.size + 1, [s1.heap.objs.size + 1, s1.heap.objs.size], _, _, H1, rfl, J, turn_enumT a (s1.heap.objs.size + 1) s1.heap.objs.size,
    ⟨⟨.none, he⟩, hit, Nat.succ_ne_self _, Nat.ne_of_lt lt_a, Nat.ne_of_gt (Nat.lt_succ_of_lt lt_a)⟩, fun c hc => ?_, q⟩
  have le_c : s1.heap.objs.size ≤ c := by
    rcases (show c = s1.heap.objs.size + 1 ∨ c = s1.heap.objs.size by simpa using hc) with z | z <;> rw [z]
    · exact Nat.le_succ _
    · exact Nat.le_refl _
  exact I1.fpOk le_c (I1.hok.fresh le_c)
/-- a loop over enumerate of a tuple -/
theorem for_enumT {K : PySem.W.Frag} {a : Addr} {xs : List V} {g : TG} {tb : TS} {D : Ends} {σ : L2.St} {H : Hp} (Pv : Nat → L2.St → Hp → Prop) (h0 : Pv 0 σ H) (hq : ∀ i σ H, Pv i σ H → SqT K H a xs)
    (hs : ∀ (i : Nat) (x : V) (T : Addr) (σ : L2.St) (H : Hp), xs[i]? = some x → Pv i σ H → H T = none → g (.ref T) σ (upd H T (.tup [.int (i : Nat), x])) fun σ2 H2 => tb { D with nx := Pv (i + 1), ct := Pv (i + 1), bk := D.nx } σ2 H2)
    (hd : ∀ σ H, Pv xs.length σ H → D.nx σ H) :
    ∃ W : Nat → Nat → L2.St → Hp → Prop, (∃ m, W 0 m σ H) ∧ ∀ i m σ H, W i m σ H → ((ItN K a).stop i H ∧ D.nx σ H) ∨ ((ItN K a).go i H ∧ ∃ N : L2.St → Hp → Prop,
      (∀ σ' H', N σ' H' → ∃ m', m' < m ∧ W (i + 1) m' σ' H') ∧ ∀ v H', (ItN K a).yld i H v H' → g v σ H' fun σ2 H2 => tb { D with nx := N, ct := N, bk := D.nx } σ2 H2) := by
  refine ⟨fun i m σ H => m = xs.length - i ∧ i ≤ xs.length ∧ Pv i σ H, ⟨xs.length, by simp, Nat.zero_le _, h0⟩, ?_⟩
  rintro i m σ H ⟨rfl, hi, p⟩
  have sq := hq i σ H p
  by_cases lt : i < xs.length
  · refine .inr ⟨⟨xs, _, sq, List.getElem?_eq_getElem lt⟩, Pv (i + 1), fun σ' H' p' => ⟨xs.length - (i + 1), by omega, rfl, lt, p'⟩, fun v H' y => ?_⟩
    obtain ⟨T, x, rfl, hT, rfl, fx⟩ := y
    exact hs i x T σ H (fx xs sq) p hT
  · have e : i = xs.length := by omega
    subst e
    exact .inl ⟨⟨xs, sq, rfl⟩, hd σ H p⟩
/-- a comprehension over zip of two tuples of one length -/
theorem lc_zipT {K : PySem.W.Frag} {a b : Addr} {xs ys : List V} {g : TG} {tt : TT} {te : TE} {vs : List Nat} {σ : L2.St} {H1 : Hp} {D : Addr} {Qd : Hp → Prop} (hl : xs.length = ys.length) (Pv : Nat → Hp → Prop) (h0 : Pv 0 (upd H1 D (.lst [])))
    (hq : ∀ i H, Pv i H → SqT K H a xs ∧ SqT K H b ys)
    (hs : ∀ (i : Nat) (x y : V) (T : Addr) (H : Hp), xs[i]? = some x → ys[i]? = some y → Pv i H → H T = none → g (.ref T) (wipe σ vs) (upd H T (.tup [x, y])) fun σ2 H2 => wipe σ2 vs = wipe σ vs ∧ tt σ2 H2 fun b H3 =>
      if b = true then te σ2 H3 fun y H4 => ∃ acc, H4 D = some (.lst acc) ∧ acc.length < sizeLine ∧ Pv (i + 1) (upd H4 D (.lst (acc ++ [y]))) else Pv (i + 1) H3) (hd : ∀ H, Pv xs.length H → Qd H) :
    ∃ W : Nat → Nat → Hp → Prop, (∃ m, W 0 m (upd H1 D (.lst []))) ∧ ∀ i m H, W i m H → ((RZ.ItzT K a b).stop i H ∧ Qd H) ∨ ((RZ.ItzT K a b).go i H ∧ ∃ Nx : Hp → Prop,
      (∀ H', Nx H' → ∃ m', m' < m ∧ W (i + 1) m' H') ∧ ∀ x H', (RZ.ItzT K a b).yld i H x H' → g x (wipe σ vs) H' fun σ2 H2 => wipe σ2 vs = wipe σ vs ∧ tt σ2 H2 fun b H3 =>
        if b = true then te σ2 H3 fun y H4 => ∃ acc, H4 D = some (.lst acc) ∧ acc.length < sizeLine ∧ Nx (upd H4 D (.lst (acc ++ [y]))) else Nx H3) := by
  refine ⟨fun i m H => m = xs.length - i ∧ i ≤ xs.length ∧ Pv i H, ⟨xs.length, by simp, Nat.zero_le _, h0⟩, ?_⟩
  rintro i m H ⟨rfl, hi, p⟩
  obtain ⟨qx, qy⟩ := hq i H p
  by_cases lt : i < xs.length
  · refine .inr ⟨⟨xs, ys, _, _, qx, qy, List.getElem?_eq_getElem lt, List.getElem?_eq_getElem (by omega)⟩, Pv (i + 1), fun H' p' => ⟨xs.length - (i + 1), by omega, rfl, lt, p'⟩, fun v H' w' => ?_⟩
    obtain ⟨T, x, y, rfl, hT, rfl, fx, fy⟩ := w'
    exact hs i x y T H (fx xs qx) (fy ys qy) p hT
  · have e : i = xs.length := by omega
    subst e
    exact .inl ⟨⟨xs, ys, qx, qy, .inl (Nat.le_refl _)⟩, hd H p⟩
end Fr

set_option Elab.async false
set_option linter.all false
set_option maxRecDepth 100000
namespace Fr
open PySem PySem.Spec PyProof.Rows L2
/-! a list that is made only to be shown -/
def tLstS (t : TA) : TE := fun σ H Q => t σ H fun xs H1 => xs.length ≤ sizeLine ∧ ∀ p, H1 p = none → p ≠ sysModules → Q (.ref p) (upd H1 p (.lst xs))
theorem pe_lstS {X : Cx} {es : List Expr} {t : TA} {pos : Pos} (h : PA X es t) : PE X (.List es pos) (tLstS t) := by
  refine ⟨fun pins s σ H Q I hq => wpAny_List_spliced (thn (h.run pos pins s σ H _ I hq) fun us s1 ⟨xs, H1, I1, r, z, q⟩ => ⟨by rw [← r.length]; exact z, ?_⟩)⟩
  refine ⟨.ref s1.heap.objs.size, _, I1.laid (o := .lst xs) (t' := s1.toks) (fun b u e => Heap.get?_push_of_some _ e) (Nat.le_refl _) ⟨z, us, 0, r, Heap.get?_push_size _ rfl⟩, rfl,
    q _ (I1.hok.fresh (Nat.le_refl _)) (Nat.ne_of_gt I1.big)⟩
def rShowS : List V → Hp → VK → Prop := fun as H Q => ∃ (d a : Addr) (b : Sd) (p : Addr) (vs : List V) (xs : List PyData), as = [.ref p] ∧ H p = some (.lst vs) ∧ p ≠ sysModules ∧ DtAll d a b H vs xs ∧
  PyData.showableAll xs = true ∧ (PyData.hasDictAll xs = true → hasLAll xs = false) ∧ PyData.depthAll xs ≤ 30 ∧ lens (PyData.shownAll xs) ≤ 1000000 ∧ Q (.str (PyData.list xs).shown) H
theorem call_showS {X : Cx} (gd : X.A.guards = some []) (hu : X.A.units + 64 < cLine) : CallR X (.builtin "repr") rShowS := by
  intro pins s σ H as us Q I r h
  obtain ⟨d, a, b, p, vs, xs, rfl, hp, np, ht, hs, hl, hd, hz, q⟩ := h
  obtain ⟨u, rfl, ru⟩ := vals1 r
  have ru : u = Value.ref p := ru
  subst ru
  obtain ⟨its, rv, ⟨o, m, ho, hc, _, hdat⟩, _⟩ := I.list (SqL.of hp)
  obtain ⟨as, hr, ha⟩ := Dt.readsAll I xs vs its ht rv
  refine repr_of_reads' (Reads.list ho hc hdat hr) (by simpa [PyData.showable] using hs) (fun h hm => ?_) gd ?_ (fun _ _ e => e) (fun h' u' tk hk => ⟨.str _, H, I.kept hk, ⟨u', rfl⟩, q⟩) ?_
  · rcases List.mem_cons.mp hm with z | z
    · exact np z.symm
    · exact ha (hl (by simpa [PyData.hasDict] using h)) z
  · simp only [PyData.depth]
    omega
  · simp only [PyData.shown]
    refine Nat.le_trans (listText_most _) ?_
    have : sizeLine = 16777216 := by decide
    omega
/-- two things in a list -/
theorem show2 {d a p : Addr} {b : Sd} {H : Hp} {v1 v2 : V} {x1 x2 : PyData} {Q : VK} (hp : H p = some (.lst [v1, v2])) (np : p ≠ sysModules) (t1 : Dt d a b H v1 x1) (t2 : Dt d a b H v2 x2)
    (g1 : Gd x1 100000 12) (g2 : Gd x2 100000 12) (pl : Pl x1) (q : Q (.str (PyData.list [x1, x2]).shown) H) : rShowS [.ref p] H Q := by
  have g := gdall_cons g1 (gdall_cons g2 (gdall_mono gdall_nil (Nat.le_refl _) (Nat.zero_le _)) (.inr plall_nil)) (.inl pl)
  exact ⟨d, a, b, p, _, _, rfl, hp, np, .cons t1 (.cons t2 .nil), g.sh, g.dl, by have := g.dp; omega, by have := g.ln; omega, q⟩
end Fr

set_option Elab.async false
set_option linter.all false
set_option maxRecDepth 100000
namespace Fr
open PySem PySem.Spec PyProof.Rows L2
/-! zip(*t): as many tuples as t has -/
structure ZSep (z TI TO : Addr) (its ls : List Addr) : Prop where
  nd : its.Nodup
  ll : its.length = ls.length
  zi : z ∉ its
  Oi : TO ∉ its
  Ii : TI ∉ its
  zl : z ∉ ls
  Ol : TO ∉ ls
  li : ∀ l ∈ ls, l ∉ its
  zO : z ≠ TO
  zI : z ≠ TI
  IO : TI ≠ TO
def ZIt (h : Heap) (its ls : List Addr) (n k : Nat) : Prop := ∀ (j : Nat) (i l : Addr), its[j]? = some i → ls[j]? = some l → h.IsTupleIter i l (if j < k then n + 1 else n)
def ZTp (h : Heap) (ls : List Addr) (n : Nat) (cols : List Value) : Prop := ∀ (j : Nat) (l : Addr), ls[j]? = some l → ∃ (items : Array Value) (v : Value), h.IsTuple l items ∧ items[n]? = some v ∧ cols[j]? = some v
abbrev Tup (h : Heap) (T : Addr) (vs : List Value) : Prop := h.get? T = some { cls := .type "tuple", data := .seq vs.toArray }
theorem ZIt.over {h h' : Heap} {its ls : List Addr} {n k : Nat} {c : Addr} (z : ZIt h its ls n k) (s : Heap.SameBut c h h') (hc : c ∉ its) : ZIt h' its ls n k := fun j i l hi hl =>
  (z j i l hi hl).extBut s.extBut fun e => hc (e ▸ List.mem_of_getElem? hi)
theorem ZTp.over {h h' : Heap} {ls : List Addr} {n : Nat} {cols : List Value} {c : Addr} (z : ZTp h ls n cols) (s : Heap.SameBut c h h') (hc : c ∉ ls) : ZTp h' ls n cols := fun j l hl =>
  let ⟨items, v, a, b, d⟩ := z j l hl
  ⟨items, v, a.extBut s.extBut fun e => hc (e ▸ List.mem_of_getElem? hl), b, d⟩
theorem nodup_at {its : List Addr} (nd : its.Nodup) {j k : Nat} {i : Addr} (h1 : its[j]? = some i) (h2 : its[k]? = some i) : j = k := by
  obtain ⟨l1, e1⟩ := List.getElem?_eq_some_iff.mp h1
  obtain ⟨l2, e2⟩ := List.getElem?_eq_some_iff.mp h2
  rcases Nat.lt_trichotomy j k with c | c | c
  · exact ((List.pairwise_iff_getElem.mp nd j k l1 l2 c) (e1.trans e2.symm)).elim
  · exact c
  · exact ((List.pairwise_iff_getElem.mp nd k j l2 l1 c) (e2.trans e1.symm)).elim
theorem ZIt.step {h h' : Heap} {its ls : List Addr} {n k : Nat} {i l : Addr} (z : ZIt h its ls n k) (nd : its.Nodup) (hi : its[k]? = some i) (hl : ls[k]? = some l) (s : Heap.SameBut i h h') (h1 : h'.IsTupleIter i l (n + 1)) : ZIt h' its ls n (k + 1) := fun j i2 l2 hi2 hl2 => by
  by_cases e : j = k
  · subst e
    rw [hi] at hi2
    rw [hl] at hl2
    have e1 := Option.some.inj hi2
    have e2 := Option.some.inj hl2
    subst e1 e2
    rw [if_pos (Nat.lt_succ_self _)]
    exact h1
  · have ne : i2 ≠ i := fun q => e (nodup_at nd (q ▸ hi2) hi)
    have := (z j i2 l2 hi2 hl2).extBut s.extBut ne
    by_cases c : j < k
    · rw [if_pos c] at this
      rw [if_pos (by omega)]
      exact this
    · rw [if_neg c] at this
      rw [if_neg (by omega)]
      exact this
theorem ZIt.start {h : Heap} {its ls : List Addr} {n : Nat} (z : ∀ (j : Nat) (i l : Addr), its[j]? = some i → ls[j]? = some l → h.IsTupleIter i l n) : ZIt h its ls n 0 := fun j i l a b => by
  rw [if_neg (Nat.not_lt_zero j)]
  exact z j i l a b
abbrev ZipAt (h : Heap) (z TI TO : Addr) (f0 f1 : Value) : Prop :=
  h.get? z = some { cls := .type "zip", dict := none, data := .fields #[f0, f1, .bool false, .ref TI, .ref TO], slots := #[] }
section
variable {prog : Program} {w : World} {A : Around} {E : Value → Shared → Prop} {s : Shared}
/-- the owned tuple is free -/
theorem zn_item1 {z TI TO : Addr} {its ls : List Addr} {n : Nat} {f1 : Value} {olds cols : List Value} {Q : Value → Shared → Prop} (D : ZSep z TI TO its ls) (h0 : its ≠ []) (hz : ZipAt s.heap z TI TO f0 f1) (hfree : ∀ Q', Q' true s → wpAny (model prog w) A (Builtin.SmallTypes.ownedTupleIsFree (.ref z)) Q' E s)
    (hTI : Tup s.heap TI (its.map Value.ref)) (hTO : Tup s.heap TO olds) (lo : olds.length = its.length) (lc : cols.length = its.length) (hi : ZIt s.heap its ls n 0) (ht : ZTp s.heap ls n cols) (sz : its.length ≤ 1000)
    (hQ : ∀ h', ZipAt h' z TI TO (rawInt s.heap.objs.size) (.bool false) → Tup h' TO cols → ZIt h' its ls n its.length → Tup h' s.heap.objs.size cols → h'.objs.size = s.heap.objs.size + 1 →
      (∀ c o, c ≠ z → c ≠ TO → c ∉ its → s.heap.get? c = some o → h'.get? c = some o) → Q (.ref s.heap.objs.size) { s with heap := h' }) :
    wpAny (model prog w) A (Builtin.«zip.__next__» ⟨[.ref z], []⟩) (fun fin s' => ∃ v, fin = .done (.ret v) ∧ Q v s') E s := by
  show wpAny _ _ (field (.ref z) 2 >>= _) _ _ _
  refine wpAny_bind (wpAny_field hz rfl (x := .bool false) rfl ?_)
  show wpAny _ _ (field (.ref z) 3 >>= _) _ _ _
  refine wpAny_bind (wpAny_field hz rfl (x := .ref TI) rfl ?_)
  refine wpAny_bind (wpAny_seqItems hTI rfl ?_)
  have he : ((its.map Value.ref).toArray.isEmpty) = false := by
    cases its with
    | nil => exact (h0 rfl).elim
    | cons a l => rfl
  simp only [he, Bool.false_eq_true, if_false]
  refine wpAny_bind (hfree _ ?_)
  simp only [if_true]
  refine wpAny_bind (wpAny_rule ?_)
  refine wpAny_bind (wpAny_field hz rfl (x := .ref TO) rfl ?_)
  refine wpAny_bind (wpAny_setField_rec hz (by simp) fun g1 y1 sb1 => ?_)
  replace y1 : ZipAt g1 z TI TO .ellipsis f1 := y1
  refine wpAny_bind (wpAny_forIn_list _ (fun rest b s' => ∃ (k : Nat) (g : Heap), k ≤ its.length ∧ rest = ((its.drop k).map Value.ref).zipIdx k ∧ b = (none, ()) ∧ s' = { s with heap := g } ∧ ZipAt g z TI TO .ellipsis f1 ∧
      Tup g TO (cols.take k ++ olds.drop k) ∧ ZIt g its ls n k ∧ ZTp g ls n cols ∧ g.objs.size = s.heap.objs.size ∧ ∀ c o, c ≠ z → c ≠ TO → c ∉ its → s.heap.get? c = some o → g.get? c = some o) _
    (fun x rest b s' hI => ?_) (fun b s' hI => ?_) _ _ ⟨0, g1, Nat.zero_le _, by rw [List.drop_zero], rfl, rfl, y1, ?_, hi.over sb1 D.zi, ht.over sb1 D.zl, sb1.1, fun c o c1 _ _ q => sb1.extBut _ _ c1 q⟩)
  · obtain ⟨k, g, hk, er, rfl, rfl, yz, yT, yi, yt, ys, yk⟩ := hI
    have klt : k < its.length := by
      rcases Nat.lt_or_ge k its.length with q | q
      · exact q
      · rw [List.drop_eq_nil_of_le q] at er
        cases er
    rw [List.drop_eq_getElem_cons klt, List.map_cons, List.zipIdx_cons] at er
    obtain ⟨rfl, rfl⟩ := List.cons.inj er
    have gi := List.getElem?_eq_getElem klt
    have klt2 : k < ls.length := by rw [← D.ll]; exact klt
    have gl := List.getElem?_eq_getElem klt2
    obtain ⟨items, v, tp, hv, hc⟩ := yt k _ gl
    have it0 := yi k _ _ gi gl
    rw [if_neg (Nat.lt_irrefl k)] at it0
    refine wpAny_bind (wpAny_onRaise ?_)
    show wpAny _ _ (Builtin.SmallTypes.nextOf (.ref its[k]) >>= _) _ _ _
    refine wpAny_bind (RZ.nextOf_tuple_item it0 tp hv fun g2 i2 sb2 => wpAny_pure ?_)
    have mi := List.getElem_mem klt
    have nO : TO ≠ its[k] := fun q => D.Oi (q ▸ mi)
    have nz : z ≠ its[k] := fun q => D.zi (q ▸ mi)
    have yT2 : Tup g2 TO (cols.take k ++ olds.drop k) := sb2.extBut _ _ nO yT
    have lT : (cols.take k ++ olds.drop k).length = its.length := by rw [List.length_append, List.length_take, List.length_drop]; omega
    refine wpAny_bind (wpAny_seqItems yT2 rfl ?_)
    refine wpAny_bind (wpAny_updateSeq yT2 rfl ?_ ?_ ?_)
    · have yT3 : Tup (g2.update TO (Obj.mapSeq fun x => x.setIfInBounds k v)) TO (cols.take (k + 1) ++ olds.drop (k + 1)) := by
        show Heap.get? _ _ = _
        rw [Heap.get?_update_self _ yT2 rfl]
        have e : (cols.take k ++ olds.drop k).toArray.setIfInBounds k v = (cols.take (k + 1) ++ olds.drop (k + 1)).toArray := by
          rw [List.setIfInBounds_toArray]
          congr 1
          rw [List.set_append_right _ _ (by rw [List.length_take]; omega), List.take_add_one, hc]
          have e2 : k - (cols.take k).length = 0 := by rw [List.length_take]; omega
          have e3 : olds.drop k = olds[k]'(by omega) :: olds.drop (k + 1) := List.drop_eq_getElem_cons (by omega)
          rw [e2, e3, List.set_cons_zero, List.append_assoc]
          rfl
        simp [Obj.mapSeq, e]
        omega
      have sb3 : Heap.SameBut TO g2 (g2.update TO (Obj.mapSeq fun x => x.setIfInBounds k v)) := Heap.SameBut.update ..
      generalize g2.update TO (Obj.mapSeq fun x => x.setIfInBounds k v) = g3 at yT3 sb3
      refine wpAny_bind (wpAny_letGo (wpAny_pure ?_))
      refine ⟨k + 1, g3, klt, rfl, rfl, rfl, sb3.extBut _ _ D.zO (sb2.extBut _ _ nz yz), yT3, (yi.step D.nd gi gl sb2 i2).over sb3 D.Oi, ?_, (sb3.1.trans sb2.1).trans ys, fun c o c1 c2 c3 q => sb3.extBut _ _ c2 (sb2.extBut _ _ (fun q' => c3 (q' ▸ mi)) (yk c o c1 c2 c3 q))⟩
      exact (yt.over sb2 fun q => D.li _ q mi).over sb3 D.Ol
    · rw [List.size_toArray, lT]
      exact Nat.le_of_lt (small1000 (by omega))
    · rw [Array.size_setIfInBounds, List.size_toArray, lT]
      exact Nat.le_succ_of_le (Nat.le_of_lt (small1000 (by omega)))
  · obtain ⟨k, g, hk, er, rfl, rfl, yz, yT, yi, yt, ys, yk⟩ := hI
    have ek : k = its.length := by
      rcases Nat.lt_or_ge k its.length with q | q
      · rw [List.drop_eq_getElem_cons q] at er
        cases er
      · omega
    subst ek
    rw [List.take_of_length_le (by omega), List.drop_eq_nil_of_le (by omega), List.append_nil] at yT
    show wpAny _ _ (seqItems? (.ref TO) >>= _) _ _ _
    refine wpAny_bind (wpAny_seqItems yT rfl ?_)
    refine wpAny_bind (wpAny_newTuple ?_ ?_)
    · have sz1 : g.objs.size = s.heap.objs.size := ys
      have zlt : z < g.objs.size := Heap.lt_size yz
      show wpAny _ _ (Builtin.SmallTypes.ownedTupleHandOut (.ref z) (.ref g.objs.size) >>= _) _ _ _
      refine wpAny_bind ?_
      unfold Builtin.SmallTypes.ownedTupleHandOut
      have y6 : ZipAt (g.push { cls := .type "tuple", data := .seq cols.toArray }) z TI TO .ellipsis f1 := Heap.get?_push_of_some _ yz
      refine wpAny_bind (wpAny_setField_rec y6 (by simp) fun g7 y7 sb7 => ?_)
      replace y7 : ZipAt g7 z TI TO (rawInt g.objs.size) f1 := y7
      refine wpAny_setField_rec y7 (by simp) fun g8 y8 sb8 => ?_
      replace y8 : ZipAt g8 z TI TO (rawInt g.objs.size) (.bool false) := y8
      have up : ∀ c o, c ≠ z → g.get? c = some o → g8.get? c = some o := fun c o c1 q => sb8.extBut _ _ c1 (sb7.extBut _ _ c1 (Heap.get?_push_of_some _ q))
      have yN : Tup g8 g.objs.size cols := sb8.extBut _ _ (Nat.ne_of_gt zlt) (sb7.extBut _ _ (Nat.ne_of_gt zlt) (Heap.get?_push_size _ rfl))
      have sz8 : g8.objs.size = g.objs.size + 1 := by rw [sb8.1, sb7.1, Heap.size_push]
      rw [sz1] at y8 yN sz8
      refine wpAny_pure ⟨_, rfl, ?_⟩
      show Q (.ref g.objs.size) _
      rw [sz1]
      exact hQ g8 y8 (up _ _ D.zO.symm yT) (fun j i l a b => (yi j i l a b).at fun o q => up _ o (fun e => D.zi (e ▸ List.mem_of_getElem? a)) q) yN sz8 fun c o c1 c2 c3 q => up c o c1 (yk c o c1 c2 c3 q)
    · show cols.toArray.toList.length ≤ sizeLine
      rw [List.toList_toArray, lc]
      exact Nat.le_of_lt (small1000 (by omega))
  · rw [List.take_zero, List.drop_zero, List.nil_append]
    exact sb1.extBut _ _ D.zO.symm hTO
/-- the owned tuple is held by another name -/
theorem zn_item2 {z TI TO : Addr} {its ls : List Addr} {n : Nat} {f0 f1 : Value} {cols : List Value} {Q : Value → Shared → Prop} (D : ZSep z TI TO its ls) (h0 : its ≠ []) (hz : ZipAt s.heap z TI TO f0 f1)
    (hfree : ∀ Q' : Bool → Shared → Prop, (∀ g, ZipAt g z TI TO f0 (.bool true) → Heap.SameBut z s.heap g → Q' false { s with heap := g }) → wpAny (model prog w) A (Builtin.SmallTypes.ownedTupleIsFree (.ref z)) Q' E s)
    (hTI : Tup s.heap TI (its.map Value.ref)) (lc : cols.length = its.length) (hi : ZIt s.heap its ls n 0) (ht : ZTp s.heap ls n cols) (sz : its.length ≤ 1000)
    (hQ : ∀ h', ZipAt h' z TI TO f0 (.bool true) → ZIt h' its ls n its.length → Tup h' s.heap.objs.size cols → h'.objs.size = s.heap.objs.size + 1 →
      (∀ c o, c ≠ z → c ∉ its → s.heap.get? c = some o → h'.get? c = some o) → Q (.ref s.heap.objs.size) { s with heap := h' }) :
    wpAny (model prog w) A (Builtin.«zip.__next__» ⟨[.ref z], []⟩) (fun fin s' => ∃ v, fin = .done (.ret v) ∧ Q v s') E s := by
  show wpAny _ _ (field (.ref z) 2 >>= _) _ _ _
  refine wpAny_bind (wpAny_field hz rfl (x := .bool false) rfl ?_)
  show wpAny _ _ (field (.ref z) 3 >>= _) _ _ _
  refine wpAny_bind (wpAny_field hz rfl (x := .ref TI) rfl ?_)
  refine wpAny_bind (wpAny_seqItems hTI rfl ?_)
  have he : ((its.map Value.ref).toArray.isEmpty) = false := by
    cases its with
    | nil => exact (h0 rfl).elim
    | cons a l => rfl
  simp only [he, Bool.false_eq_true, if_false]
  refine wpAny_bind (hfree _ fun g1 y1 sb1 => ?_)
  simp only [Bool.false_eq_true, if_false]
  refine wpAny_bind (MeetsSeq2.wpAny_forIn_array _ (fun rest b s' => ∃ (k : Nat) (g : Heap), k ≤ its.length ∧ rest = (its.drop k).map Value.ref ∧ b = (none, (cols.take k).toArray) ∧ s' = { s with heap := g } ∧ ZipAt g z TI TO f0 (.bool true) ∧
      ZIt g its ls n k ∧ ZTp g ls n cols ∧ g.objs.size = s.heap.objs.size ∧ ∀ c o, c ≠ z → c ∉ its → s.heap.get? c = some o → g.get? c = some o) _
    (fun x rest b s' hI => ?_) (fun b s' hI => ?_) _ _ ⟨0, g1, Nat.zero_le _, by rw [List.drop_zero], rfl, rfl, y1, hi.over sb1 D.zi, ht.over sb1 D.zl, sb1.1, fun c o c1 _ q => sb1.extBut _ _ c1 q⟩)
  · obtain ⟨k, g, hk, er, rfl, rfl, yz, yi, yt, ys, yk⟩ := hI
    have klt : k < its.length := by
      rcases Nat.lt_or_ge k its.length with q | q
      · exact q
      · rw [List.drop_eq_nil_of_le q] at er
        cases er
    rw [List.drop_eq_getElem_cons klt, List.map_cons] at er
    obtain ⟨rfl, rfl⟩ := List.cons.inj er
    have gi := List.getElem?_eq_getElem klt
    have klt2 : k < ls.length := by rw [← D.ll]; exact klt
    have gl := List.getElem?_eq_getElem klt2
    obtain ⟨items, v, tp, hv, hc⟩ := yt k _ gl
    have it0 := yi k _ _ gi gl
    rw [if_neg (Nat.lt_irrefl k)] at it0
    have mi := List.getElem_mem klt
    have nz : z ≠ its[k] := fun q => D.zi (q ▸ mi)
    refine wpAny_bind (wpAny_holding ?_)
    show wpAny _ _ (Builtin.SmallTypes.nextOf (.ref its[k]) >>= _) _ _ _
    refine wpAny_bind (RZ.nextOf_tuple_item it0 tp hv fun g2 i2 sb2 => wpAny_pure (wpAny_pure ?_))
    refine ⟨k + 1, g2, klt, rfl, ?_, rfl, sb2.extBut _ _ nz yz, yi.step D.nd gi gl sb2 i2, yt.over sb2 (fun q => D.li _ q mi), sb2.1.trans ys, fun c o c1 c3 q => sb2.extBut _ _ (fun q' => c3 (q' ▸ mi)) (yk c o c1 c3 q)⟩
    rw [List.take_add_one, hc]
    simp
  · obtain ⟨k, g, hk, er, rfl, rfl, yz, yi, yt, ys, yk⟩ := hI
    have ek : k = its.length := by
      rcases Nat.lt_or_ge k its.length with q | q
      · rw [List.drop_eq_getElem_cons q] at er
        cases er
      · omega
    subst ek
    rw [List.take_of_length_le (by omega)]
    show wpAny _ _ (newTuple cols.toArray.toList >>= _) _ _ _
    refine wpAny_bind (wpAny_newTuple ?_ ?_)
    · refine wpAny_pure ⟨_, rfl, ?_⟩
      have sz1 : g.objs.size = s.heap.objs.size := ys
      show Q (.ref g.objs.size) _
      rw [sz1]
      have up : ∀ c o, g.get? c = some o → (g.push { cls := .type "tuple", data := .seq cols.toArray }).get? c = some o := fun c o q => Heap.get?_push_of_some _ q
      have yN : Tup (g.push { cls := .type "tuple", data := .seq cols.toArray }) g.objs.size cols := Heap.get?_push_size _ rfl
      rw [sz1] at yN
      exact hQ _ (up _ _ yz) (fun j i l a b => (yi j i l a b).at fun o q => up _ o q) yN (by rw [Heap.size_push, sz1]) fun c o c1 c3 q => up c o (yk c o c1 c3 q)
    · show cols.toArray.toList.length ≤ sizeLine
      rw [List.toList_toArray, lc]
      exact Nat.le_of_lt (small1000 (by omega))
theorem wpAny_alive {M : Model} {a : Addr} {Q : Option Obj → Shared → Prop} (h : Q (s.heap.get? a) s) : wpAny M A (loadIfAlive a) Q E s := fun Γ p _ => by
  unfold loadIfAlive
  rw [Sem.wp_loadIfAlive]
  simpa using h
def F0 (v : Value) : Prop := v = .none ∨ ∃ m : Nat, v = rawInt m
theorem zn_item {z TI TO : Addr} {its ls : List Addr} {n : Nat} {f0 : Value} {f1 : Bool} {olds cols : List Value} {Q : Value → Shared → Prop} (D : ZSep z TI TO its ls) (h0 : its ≠ []) (hf : F0 f0) (hz : ZipAt s.heap z TI TO f0 (.bool f1))
    (hTI : Tup s.heap TI (its.map Value.ref)) (hTO : Tup s.heap TO olds) (lo : olds.length = its.length) (lc : cols.length = its.length) (hi : ZIt s.heap its ls n 0) (ht : ZTp s.heap ls n cols) (sz : its.length ≤ 1000)
    (hQ : ∀ h' g0 g1 os, F0 g0 → ZipAt h' z TI TO g0 (.bool g1) → Tup h' TO os → os.length = its.length → ZIt h' its ls n its.length → Tup h' s.heap.objs.size cols → h'.objs.size = s.heap.objs.size + 1 →
      (∀ c o, c ≠ z → c ≠ TO → c ∉ its → s.heap.get? c = some o → h'.get? c = some o) → Q (.ref s.heap.objs.size) { s with heap := h' }) :
    wpAny (model prog w) A (Builtin.«zip.__next__» ⟨[.ref z], []⟩) (fun fin s' => ∃ v, fin = .done (.ret v) ∧ Q v s') E s := by
  have one : (∀ Q' : Bool → Shared → Prop, Q' true s → wpAny (model prog w) A (Builtin.SmallTypes.ownedTupleIsFree (.ref z)) Q' E s) → wpAny (model prog w) A (Builtin.«zip.__next__» ⟨[.ref z], []⟩) (fun fin s' => ∃ v, fin = .done (.ret v) ∧ Q v s') E s := fun hfree =>
    zn_item1 D h0 hz hfree hTI hTO lo lc hi ht sz fun h' a b c d e f => hQ h' _ _ cols (.inr ⟨_, rfl⟩) a b lc c d e f
  rcases hf with rfl | ⟨m, rfl⟩
  · refine one fun Q' q => ?_
    unfold Builtin.SmallTypes.ownedTupleIsFree
    exact wpAny_bind (wpAny_field hz rfl (x := .none) rfl (wpAny_pure q))
  · cases hm : s.heap.get? m with
    | none =>
      refine one fun Q' q => ?_
      unfold Builtin.SmallTypes.ownedTupleIsFree
      refine wpAny_bind (wpAny_field hz rfl (x := rawInt m) rfl ?_)
      refine wpAny_bind (wpAny_alive ?_)
      have e : ((m : Int)).toNat = m := Int.toNat_natCast m
      show wpAny _ _ (if (s.heap.get? (m : Int).toNat).isNone = true then _ else _) _ _ _
      rw [e, hm]
      exact wpAny_pure q
    | some o =>
      refine zn_item2 D h0 hz (fun Q' q => ?_) hTI lc hi ht sz fun h' a c d e f => hQ h' _ _ olds (.inr ⟨_, rfl⟩) a ?_ lo c d e fun c' o' c1 _ c3 q => f c' o' c1 c3 q
      · unfold Builtin.SmallTypes.ownedTupleIsFree
        refine wpAny_bind (wpAny_field hz rfl (x := rawInt m) rfl ?_)
        refine wpAny_bind (wpAny_alive ?_)
        have e : ((m : Int)).toNat = m := Int.toNat_natCast m
        show wpAny _ _ (if (s.heap.get? (m : Int).toNat).isNone = true then _ else _) _ _ _
        rw [e, hm]
        show wpAny _ _ (field (.ref z) 1 >>= _) _ _ _
        refine wpAny_bind (wpAny_field hz rfl (x := .bool f1) rfl ?_)
        cases f1 with
        | true => exact wpAny_pure (q _ hz (Heap.SameBut.refl _ _))
        | false =>
          show wpAny _ _ (setField (.ref z) 1 (.bool true) >>= _) _ _ _
          refine wpAny_bind (wpAny_setField_rec hz (by simp) fun g y sb => wpAny_pure (q g y sb))
      · exact f TO _ D.zO.symm D.Oi hTO
/-- the first tuple has ended -/
theorem zn_end {z TI TO i l : Addr} {its ls : List Addr} {n : Nat} {f0 : Value} {f1 : Bool} {items : Array Value} {Q : Fin → Shared → Prop} (hh : A.handled = none) (D : ZSep z TI TO (i :: its) (l :: ls)) (hf : F0 f0) (hz : ZipAt s.heap z TI TO f0 (.bool f1))
    (hTI : Tup s.heap TI ((i :: its).map Value.ref)) (hi : s.heap.IsTupleIter i l n) (ht : s.heap.IsTuple l items) (hn : items[n]? = none)
    (hE : ∀ h' e, (∀ c o, c ≠ z → c ≠ i → s.heap.get? c = some o → h'.get? c = some o) → (∃ o, h'.get? e = some o ∧ o.cls = .type "StopIteration") → E (.ref e) { s with heap := h' }) (hTO : ∃ os, Tup s.heap TO os) :
    wpAny (model prog w) A (Builtin.«zip.__next__» ⟨[.ref z], []⟩) Q E s := by
  obtain ⟨os, hTO⟩ := hTO
  have zi : z ≠ i := fun e => D.zi (e ▸ List.mem_cons_self)
  have zl : z ≠ l := fun e => D.zl (e ▸ List.mem_cons_self)
  show wpAny _ _ (field (.ref z) 2 >>= _) _ _ _
  refine wpAny_bind (wpAny_field hz rfl (x := .bool false) rfl ?_)
  show wpAny _ _ (field (.ref z) 3 >>= _) _ _ _
  refine wpAny_bind (wpAny_field hz rfl (x := .ref TI) rfl ?_)
  refine wpAny_bind (wpAny_seqItems hTI rfl ?_)
  have he : (((i :: its).map Value.ref).toArray.isEmpty) = false := rfl
  simp only [he, Bool.false_eq_true, if_false]
  have alive : ∀ {m : Nat} {Q' : Bool → Shared → Prop}, f0 = rawInt m → (s.heap.get? m = none → Q' true s) → (∀ g, ZipAt g z TI TO f0 (.bool true) → Heap.SameBut z s.heap g → Q' false { s with heap := g }) → wpAny (model prog w) A (Builtin.SmallTypes.ownedTupleIsFree (.ref z)) Q' E s := by
    intro m Q' e0 q1 q2
    subst e0
    unfold Builtin.SmallTypes.ownedTupleIsFree
    refine wpAny_bind (wpAny_field hz rfl (x := rawInt m) rfl ?_)
    refine wpAny_bind (wpAny_alive ?_)
    have e : ((m : Int)).toNat = m := Int.toNat_natCast m
    show wpAny _ _ (if (s.heap.get? (m : Int).toNat).isNone = true then _ else _) _ _ _
    rw [e]
    cases hm : s.heap.get? m with
    | none => exact wpAny_pure (q1 hm)
    | some o =>
      show wpAny _ _ (field (.ref z) 1 >>= _) _ _ _
      refine wpAny_bind (wpAny_field hz rfl (x := .bool f1) rfl ?_)
      cases f1 with
      | true => exact wpAny_pure (q2 _ hz (Heap.SameBut.refl _ _))
      | false =>
        show wpAny _ _ (setField (.ref z) 1 (.bool true) >>= _) _ _ _
        exact wpAny_bind (wpAny_setField_rec hz (by simp) fun g y sb => wpAny_pure (q2 g y sb))
  refine wpAny_bind (?_ : wpAny _ _ (Builtin.SmallTypes.ownedTupleIsFree (.ref z)) _ _ _)
  rcases hf with rfl | ⟨m, rfl⟩
  case' inl =>
    unfold Builtin.SmallTypes.ownedTupleIsFree
    refine wpAny_bind (wpAny_field hz rfl (x := .none) rfl (wpAny_pure ?_))
  case' inr => refine alive rfl (fun _ => ?_) (fun g1 y1 sb1 => ?_)
  case inr.refine_2 =>
    simp only [Bool.false_eq_true, if_false]
    refine wpAny_bind ?_
    rw [← Array.forIn_toList]
    show wpAny _ _ (forIn (Value.ref i :: its.map Value.ref) _ _) _ _ _
    rw [List.forIn_cons]
    refine wpAny_bind (wpAny_bind (wpAny_holding ?_))
    show wpAny _ _ (Builtin.SmallTypes.nextOf (.ref i) >>= _) _ _ _
    refine wpAny_bind (RZ.nextOf_tuple_end hh (hi.extBut sb1.extBut zi.symm) (ht.extBut sb1.extBut zl.symm) hn fun g2 e sb2 he2 => ?_)
    exact hE g2 e (fun c o c1 c2 q => sb2 _ _ c2 (sb1.extBut _ _ c1 q)) he2
  all_goals
    simp only [if_true]
    refine wpAny_bind (wpAny_rule ?_)
    refine wpAny_bind (wpAny_field hz rfl (x := .ref TO) rfl ?_)
    refine wpAny_bind (wpAny_setField_rec hz (by simp) fun g1 y1 sb1 => ?_)
    replace y1 : ZipAt g1 z TI TO .ellipsis (.bool f1) := y1
    refine wpAny_bind ?_
    rw [List.map_cons, List.zipIdx_cons, List.forIn_cons]
    refine wpAny_bind (wpAny_bind (wpAny_onRaise ?_))
    show wpAny _ _ (Builtin.SmallTypes.nextOf (.ref i) >>= _) _ _ _
    refine wpAny_bind (RZ.nextOf_tuple_end hh (hi.extBut sb1.extBut zi.symm) (ht.extBut sb1.extBut zl.symm) hn fun g2 e sb2 ⟨oe, hoe, hce⟩ => ?_)
    have y2 : ZipAt g2 z TI TO .ellipsis (.bool f1) := sb2 _ _ zi y1
    have ez : e ≠ z := fun q => by subst q; rw [y2] at hoe; cases hoe; simp at hce
    exact wpAny_setField_rec y2 (by simp) fun g3 _ sb3 => hE g3 e (fun c o c1 c2 q => sb3.extBut _ _ c1 (sb2 _ _ c2 (sb1.extBut _ _ c1 q))) ⟨oe, sb3.extBut _ _ ez hoe, hce⟩
end
end Fr

set_option Elab.async false
set_option linter.all false
set_option maxRecDepth 100000
namespace Fr
open PySem PySem.Spec PyProof.Rows L2
section
variable {prog : Program} {w : World} {A : Around} {E : Value → Shared → Prop} {s : Shared}
theorem pn_item {z TI TO : Addr} {its ls : List Addr} {n : Nat} {f0 : Value} {f1 : Bool} {olds cols : List Value} {Q : Option Value → Shared → Prop} (D : ZSep z TI TO its ls) (h0 : its ≠ []) (hf : F0 f0) (hz : ZipAt s.heap z TI TO f0 (.bool f1))
    (hTI : Tup s.heap TI (its.map Value.ref)) (hTO : Tup s.heap TO olds) (lo : olds.length = its.length) (lc : cols.length = its.length) (hi : ZIt s.heap its ls n 0) (ht : ZTp s.heap ls n cols) (sz : its.length ≤ 1000)
    (hQ : ∀ h' g0 g1 os, F0 g0 → ZipAt h' z TI TO g0 (.bool g1) → Tup h' TO os → os.length = its.length → ZIt h' its ls n its.length → Tup h' s.heap.objs.size cols → h'.objs.size = s.heap.objs.size + 1 →
      (∀ c o, c ≠ z → c ≠ TO → c ∉ its → s.heap.get? c = some o → h'.get? c = some o) → Q (some (.ref s.heap.objs.size)) { s with heap := h' }) :
    wpAny (model prog w) A (pyNext (.ref z)) Q E s := by
  have tz : s.TypeIs (.ref z) "zip" := ⟨_, hz, rfl⟩
  unfold pyNext
  exact wpAny_bind (wpAny_attempt (wpAny_callSpecial?_slot (name := Str.ofString "__next__") tz F.slot_zip_next (wpAny_call_entry F.slot_zip_next tz F.entry_zip_next
    (zn_item D h0 hf hz hTI hTO lo lc hi ht sz fun h' g0 g1 os a1 a2 a3 a4 a5 a6 a7 a8 => wpAny_pure (hQ h' g0 g1 os a1 a2 a3 a4 a5 a6 a7 a8)) (F.args_zip_next_1 _))))
theorem pn_end {z TI TO i l : Addr} {its ls : List Addr} {n : Nat} {f0 : Value} {f1 : Bool} {items : Array Value} {Q : Option Value → Shared → Prop} (hh : A.handled = none) (D : ZSep z TI TO (i :: its) (l :: ls)) (hf : F0 f0) (hz : ZipAt s.heap z TI TO f0 (.bool f1))
    (hTI : Tup s.heap TI ((i :: its).map Value.ref)) (hi : s.heap.IsTupleIter i l n) (ht : s.heap.IsTuple l items) (hn : items[n]? = none) (hTO : ∃ os, Tup s.heap TO os)
    (hQ : ∀ h', (∀ c o, c ≠ z → c ≠ i → s.heap.get? c = some o → h'.get? c = some o) → Q none { s with heap := h' }) : wpAny (model prog w) A (pyNext (.ref z)) Q E s := by
  have tz : s.TypeIs (.ref z) "zip" := ⟨_, hz, rfl⟩
  unfold pyNext
  refine wpAny_bind (wpAny_attempt (wpAny_callSpecial?_slot (name := Str.ofString "__next__") tz F.slot_zip_next (wpAny_call_entry F.slot_zip_next tz F.entry_zip_next
    (zn_end hh D hf hz hTI hi ht hn (fun h' e hk he => ?_) hTO) (F.args_zip_next_1 _))))
  obtain ⟨o, ho, hc⟩ := he
  exact wpAny_bind (wpAny_isInstance (T := "StopIteration") (b := true) ⟨o, ho, hc⟩ isSubtype_stop (wpAny_pure (hQ _ hk)))
theorem pi_zipAny {z TI TO : Addr} {f0 f1 : Value} {Q : Value → Shared → Prop} (hz : ZipAt s.heap z TI TO f0 f1) (h : Q (.ref z) s) : wpAny (model prog w) A (pyIter (.ref z)) Q E s := by
  have tz : s.TypeIs (.ref z) "zip" := ⟨_, hz, rfl⟩
  refine wpAny_pyIter_slot tz F.slot_zip_iter (wpAny_call_entry F.slot_zip_iter tz F.entry_zip_iter ?_ (F.args_zip_iter_1 _))
  exact wpAny_pure ⟨_, rfl, "zip", _, tz, F.slot_zip_next.lookup, h⟩
end
/-- the tuples at ls, an item of each in a new tuple -/
def ItS (K : PySem.W.Frag) (ls : List Addr) : It :=
  ⟨fun i H => ∀ l ∈ ls, ∃ (xs : List V) (x : V), SqT K H l xs ∧ xs[i]? = some x,
    fun i H v H' => ∃ (T : Addr) (cs : List V), v = .ref T ∧ H T = none ∧ H' = upd H T (.tup cs) ∧ cs.length = ls.length ∧ ∀ (j : Nat) (l : Addr) (xs : List V), ls[j]? = some l → SqT K H l xs → ∃ x, xs[i]? = some x ∧ cs[j]? = some x,
    fun i H => ∃ (l : Addr) (xs : List V), ls.head? = some l ∧ SqT K H l xs ∧ xs.length ≤ i⟩
theorem cols_of {X : Cx} {pins : List (Addr × Obj)} {σ : L2.St} {H : Hp} {s : Shared} (I : Inv X pins σ H s) {i : Nat} : ∀ {ls : List Addr}, (∀ l ∈ ls, ∃ (xs : List V) (x : V), SqT X.K H l xs ∧ xs[i]? = some x) →
    ∃ (cs : List V) (us : List Value), Vals cs us ∧ cs.length = ls.length ∧ ZTp s.heap ls i us ∧ ∀ (j : Nat) (l : Addr) (xs : List V), ls[j]? = some l → SqT X.K H l xs → ∃ x, xs[i]? = some x ∧ cs[j]? = some x
  | [], _ => ⟨[], [], .nil, rfl, fun j l e => by simp at e, fun j l xs e => by simp at e⟩
  | l :: ls, h => by
    obtain ⟨cs, us, r, e1, zt, hc⟩ := cols_of I (ls := ls) fun l hl => h l (List.mem_cons_of_mem _ hl)
    obtain ⟨xs, x, hq, hx⟩ := h l List.mem_cons_self
    obtain ⟨its, rv, tp, _⟩ := I.tuple hq
    obtain ⟨u, hu, ru⟩ := rv.get hx
    refine ⟨x :: cs, u :: us, .cons ru r, by rw [List.length_cons, List.length_cons, e1], fun j l2 e => ?_, fun j l2 xs2 e hq2 => ?_⟩
    · cases j with
      | zero =>
        have e := Option.some.inj e
        subst e
        exact ⟨its.toArray, u, tp, by simpa using hu, rfl⟩
      | succ j => exact zt j l2 e
    · cases j with
      | zero =>
        have e := Option.some.inj e
        subst e
        exact ⟨x, by rw [I.tuple_inj hq2 hq]; exact hx, rfl⟩
      | succ j => exact hc j l2 xs2 e hq2
theorem turn_zipS {P : Program} {w : World} {K : PySem.W.Frag} {nm : Str} {npos : Pos} {z TI TO : Addr} {its ls : List Addr} (D : ZSep z TI TO its ls) (h0 : its ≠ []) (sz : its.length ≤ 1000) :
    Turn P w K (.Name nm npos) (ItS K ls) (z :: TI :: TO :: its) z (fun i h => (∃ f0 f1, F0 f0 ∧ ZipAt h z TI TO f0 (.bool f1)) ∧ Tup h TI (its.map Value.ref) ∧ (∃ os, Tup h TO os ∧ os.length = its.length) ∧ ZIt h its ls i 0) where
  mem := List.mem_cons_self
  obj := fun i h st c hc => by
    obtain ⟨⟨f0, f1, hf, hz⟩, hTI, ⟨os, hTO, _⟩, hi⟩ := st
    rcases List.mem_cons.mp hc with q | q
    · rw [q]; exact ⟨_, hz, fun v q => nomatch q⟩
    rcases List.mem_cons.mp q with q | q
    · rw [q]; exact ⟨_, hTI, fun v q => nomatch q⟩
    rcases List.mem_cons.mp q with q | q
    · rw [q]; exact ⟨_, hTO, fun v q => nomatch q⟩
    · obtain ⟨j, hj⟩ := List.getElem?_of_mem q
      have jl : j < ls.length := by rw [← D.ll]; exact (List.getElem?_eq_some_iff.mp hj).1
      obtain ⟨o, e, _, d⟩ := hi j c _ hj (List.getElem?_eq_getElem jl)
      exact ⟨o, e, fun v q => by rw [d] at q; cases q⟩
  keep := fun i h h' st k => by
    obtain ⟨⟨f0, f1, hf, hz⟩, hTI, ⟨os, hTO, lo⟩, hi⟩ := st
    exact ⟨⟨f0, f1, hf, k z (by simp) _ hz⟩, k TI (by simp) _ hTI, ⟨os, k TO (by simp) _ hTO, lo⟩, fun j a l e1 e2 => (hi j a l e1 e2).at fun o q => k a (by simp [List.mem_of_getElem? e1]) o q⟩
  item := by
    intro X hP hw hK hc i pins s σ H E I hf st hg
    subst hP hw hK
    obtain ⟨⟨f0, f1, hf0, hz⟩, hTI, ⟨os, hTO, lo⟩, hi⟩ := st
    obtain ⟨cs, us, r, lc, zt, hcs⟩ := cols_of I hg
    have lu : us.length = its.length := by rw [← r.length, lc, D.ll]
    refine pn_item D h0 hf0 hz hTI hTO lo lu hi zt sz fun h' g0 g1 os' a1 a2 a3 a4 a5 a6 a7 a8 => ⟨_, rfl, wpAny_pure ?_⟩
    have new : ObjOk X.prog X.w (upd H s.heap.objs.size (.tup cs)) h' s.heap.objs.size (.tup cs) :=
      ⟨by rw [lc, ← D.ll]; exact Nat.le_of_lt (small1000 (by omega)), us, r, ⟨_, a6, rfl, _, rfl⟩⟩
    have fr : ∀ c o, c ∉ (z :: TI :: TO :: its) → s.heap.get? c = some o → h'.get? c = some o := fun c o hb q => a8 c o (fun q' => hb (by simp [q'])) (fun q' => hb (by simp [q'])) (fun q' => hb (by simp [q'])) q
    have J := I.turnedNew (h' := h') (t' := s.toks) (ch := z :: TI :: TO :: its) fr hf (Nat.le_refl _) new
    refine ⟨.ref s.heap.objs.size, _, J, rfl, ⟨_, cs, rfl, I.hok.fresh (Nat.le_refl _), rfl, lc, hcs⟩, ⟨⟨g0, g1, a1, a2⟩, a8 _ _ D.zI.symm D.IO D.Ii hTI, ⟨os', a3, a4⟩, fun j a l e1 e2 => ?_⟩, fun c hcm => ?_⟩
    · have q := a5 j a l e1 e2
      rw [if_pos (List.getElem?_eq_some_iff.mp e1).1] at q
      rw [if_neg (Nat.not_lt_zero j)]
      exact q
    · have hlt : c < s.heap.objs.size := by
        rcases List.mem_cons.mp hcm with q | q
        · rw [q]; exact Heap.lt_size hz
        rcases List.mem_cons.mp q with q | q
        · rw [q]; exact Heap.lt_size hTI
        rcases List.mem_cons.mp q with q | q
        · rw [q]; exact Heap.lt_size hTO
        · obtain ⟨j, hj⟩ := List.getElem?_of_mem q
          have jl : j < ls.length := by rw [← D.ll]; exact (List.getElem?_eq_some_iff.mp hj).1
          obtain ⟨o, e, _⟩ := hi j c _ hj (List.getElem?_eq_getElem jl)
          exact Heap.lt_size e
      rw [upd_ne (Nat.ne_of_lt hlt)]
      exact (hf c hcm).1
  done := by
    intro X hP hw hK hc i pins s σ H E I hf st hg
    subst hP hw hK
    obtain ⟨⟨f0, f1, hf0, hz⟩, hTI, ⟨os, hTO, lo⟩, hi⟩ := st
    obtain ⟨l, xs, hl, hq, hx⟩ := hg
    obtain ⟨items, rv, tp, _⟩ := I.tuple hq
    have ln := rv.length
    cases its with
    | nil => exact (h0 rfl).elim
    | cons a its =>
      cases ls with
      | nil => cases hl
      | cons l2 ls =>
        have e : l2 = l := Option.some.inj hl
        subst e
        have hi0 := hi 0 a l2 rfl rfl
        rw [if_neg (Nat.not_lt_zero 0)] at hi0
        refine pn_end (I.ok.hd hc) D hf0 hz hTI hi0 tp (by simp; omega) ⟨os, hTO⟩ fun h' hk => ⟨rfl, ?_⟩
        exact I.turnedL (t' := s.toks) (ch := z :: TI :: TO :: a :: its) (fun c o hb q => hk c o (fun q' => hb (by simp [q'])) (fun q' => hb (by simp [q'])) q) hf
  self := fun A i s Q E st h => let ⟨⟨_, _, _, hz⟩, _⟩ := st; pi_zipAny hz h
end Fr

set_option Elab.async false
set_option linter.all false
set_option maxRecDepth 100000
namespace Fr
open PySem PySem.Spec PyProof.Rows L2
def Adr (a n : Nat) : List Addr := List.range' a n
theorem adr_get {a n j : Nat} : j < n → (Adr a n)[j]? = some (a + j) := fun h => by
  unfold Adr
  rw [List.getElem?_range' h]
  simp
theorem adr_at {a n j : Nat} {i : Addr} (h : (Adr a n)[j]? = some i) : i = a + j ∧ j < n := by
  have l := (List.getElem?_eq_some_iff.mp h).1
  unfold Adr at l
  rw [List.length_range'] at l
  rw [adr_get l] at h
  exact ⟨(Option.some.inj h).symm, l⟩
theorem wpAny_iterS {prog : Program} {w : World} {A : Around} {E : Value → Shared → Prop} {s : Shared} {ls : List Addr} {Q : List Value → Shared → Prop} (ht : ∀ l ∈ ls, ∃ items, s.heap.IsTuple l items)
    (hQ : ∀ h', (∀ c o, s.heap.get? c = some o → h'.get? c = some o) → (∀ (j : Nat) (l : Addr), ls[j]? = some l → h'.IsTupleIter (s.heap.objs.size + j) l 0) → h'.objs.size = s.heap.objs.size + ls.length →
      Q ((Adr s.heap.objs.size ls.length).map Value.ref) { s with heap := h' }) : wpAny (model prog w) A (Builtin.SmallTypes.iterAll (ls.map Value.ref)) Q E s := by
  unfold Builtin.SmallTypes.iterAll
  refine wpAny_bind (wpAny_forIn_list _ (fun rest b s' => ∃ (k : Nat) (g : Heap), k ≤ ls.length ∧ rest = (ls.drop k).map Value.ref ∧ b = ((Adr s.heap.objs.size k).map Value.ref).toArray ∧ s' = { s with heap := g } ∧
      (∀ c o, s.heap.get? c = some o → g.get? c = some o) ∧ (∀ (j : Nat) (l : Addr), j < k → ls[j]? = some l → g.IsTupleIter (s.heap.objs.size + j) l 0) ∧ g.objs.size = s.heap.objs.size + k) _
    (fun x rest b s' hI => ?_) (fun b s' hI => ?_) _ _ ⟨0, s.heap, Nat.zero_le _, rfl, rfl, rfl, fun _ _ q => q, fun j l q => absurd q (Nat.not_lt_zero j), rfl⟩)
  · obtain ⟨k, g, hk, er, rfl, rfl, kp, hi, hs⟩ := hI
    have klt : k < ls.length := by
      rcases Nat.lt_or_ge k ls.length with q | q
      · exact q
      · rw [List.drop_eq_nil_of_le q] at er
        cases er
    rw [List.drop_eq_getElem_cons klt, List.map_cons] at er
    obtain ⟨rfl, rfl⟩ := List.cons.inj er
    obtain ⟨items, ⟨o, ho, hc, hd⟩⟩ := ht _ (List.getElem_mem klt)
    have tp : g.IsTuple ls[k] items := ⟨o, kp _ _ ho, hc, hd⟩
    refine wpAny_bind (wpAny_holding (wpAny_pyIter_tuple tp (wpAny_pure ?_)))
    refine ⟨k + 1, g.push { cls := .type "tuple_iterator", data := .fields #[.ref ls[k], .int 0 0] }, klt, rfl, ?_, rfl, fun c o q => Heap.get?_push_of_some _ (kp c o q), fun j l hj hl => ?_, by rw [Heap.size_push, hs]; rfl⟩
    · show Array.push _ (Value.ref g.objs.size) = _
      rw [hs]
      unfold Adr
      rw [List.range'_1_concat, List.map_append]
      simp
    · rcases Nat.lt_or_ge j k with q | q
      · exact (hi j l q hl).at fun o q => Heap.get?_push_of_some _ q
      · have e : j = k := by omega
        subst e
        rw [List.getElem?_eq_getElem klt] at hl
        have e := Option.some.inj hl
        rw [← e, ← hs]
        exact ⟨_, Heap.get?_push_size _ rfl, rfl, rfl⟩
  · obtain ⟨k, g, hk, er, rfl, rfl, kp, hi, hs⟩ := hI
    have ek : k = ls.length := by
      rcases Nat.lt_or_ge k ls.length with q | q
      · rw [List.drop_eq_getElem_cons q] at er
        cases er
      · omega
    subst ek
    refine wpAny_pure ?_
    exact hQ g kp (fun j l hl => hi j l (List.getElem?_eq_some_iff.mp hl).1 hl) hs
theorem meets_zipS (ls : List Addr) :
    Meets (Builtin.«zip.__new__» ⟨.type "zip" :: ls.map Value.ref, []⟩) (fun _ R s => (∀ l ∈ ls, ∃ items, s.heap.IsTuple l items) ∧ ls.length ≤ 1000 ∧
      ∀ h', (∀ c o, s.heap.get? c = some o → h'.get? c = some o) → (∀ (j : Nat) (l : Addr), ls[j]? = some l → h'.IsTupleIter (s.heap.objs.size + j) l 0) → h'.objs.size = s.heap.objs.size + ls.length + 3 →
        Tup h' (s.heap.objs.size + ls.length) ((Adr s.heap.objs.size ls.length).map Value.ref) → Tup h' (s.heap.objs.size + ls.length + 1) ((Adr s.heap.objs.size ls.length).map fun _ => Value.none) →
        ZipAt h' (s.heap.objs.size + ls.length + 2) (s.heap.objs.size + ls.length) (s.heap.objs.size + ls.length + 1) .none (.bool false) →
        R (.ok (.ret (.ref (s.heap.objs.size + ls.length + 2)))) { s with heap := h' }) :=
  .of_wp fun prog w A R s h => by
    obtain ⟨ht, hl, hR⟩ := h
    have hsub := sub_zip
    show wpAny _ _ (Builtin.SmallTypes.newClass "zip" _ >>= _) _ _ _
    refine wpAny_bind ?_
    unfold Builtin.SmallTypes.newClass
    refine wpAny_bind (wpAny_of_eq (a := true) (by rfl) ?_)
    refine wpAny_bind (wpAny_of_eq hsub (wpAny_pure ?_))
    refine wpAny_bind (wpAny_iterS ht fun h1 kp hi hs => ?_)
    have la : (Adr s.heap.objs.size ls.length).length = ls.length := List.length_range'
    refine wpAny_bind (wpAny_newTuple ?_ (by rw [List.length_map, la]; exact Nat.le_of_lt (small1000 (by omega))))
    refine wpAny_bind (wpAny_newTuple ?_ (by rw [List.length_map, List.length_map, la]; exact Nat.le_of_lt (small1000 (by omega))))
    rw [List.map_map]
    refine wpAny_bind ?_
    show wpAny _ _ (newObj (.type "zip") (.fields #[.none, .bool false, .bool false, .ref h1.objs.size, .ref (h1.push _).objs.size])) _ _ _
    refine wpAny_newObj_type ?_ (by size_fits)
    refine wpAny_pure ⟨_, rfl, ?_⟩
    have z1 : (h1.push { cls := .type "tuple", data := .seq ((Adr s.heap.objs.size ls.length).map Value.ref).toArray }).objs.size = s.heap.objs.size + ls.length + 1 := by rw [Heap.size_push, hs]
    have e1 : Tup (h1.push { cls := .type "tuple", data := .seq ((Adr s.heap.objs.size ls.length).map Value.ref).toArray }) h1.objs.size ((Adr s.heap.objs.size ls.length).map Value.ref) := Heap.get?_push_size _ rfl
    have k1 : ∀ c o, h1.get? c = some o → (h1.push { cls := .type "tuple", data := .seq ((Adr s.heap.objs.size ls.length).map Value.ref).toArray }).get? c = some o := fun c o q => Heap.get?_push_of_some _ q
    rw [hs] at e1 ⊢
    generalize h1.push { cls := .type "tuple", data := .seq ((Adr s.heap.objs.size ls.length).map Value.ref).toArray } = h2 at z1 e1 k1 ⊢
    have z2 : (h2.push { cls := .type "tuple", data := .seq ((Adr s.heap.objs.size ls.length).map ((fun _ => Value.none) ∘ Value.ref)).toArray }).objs.size = s.heap.objs.size + ls.length + 2 := by rw [Heap.size_push, z1]
    have e2 : Tup (h2.push { cls := .type "tuple", data := .seq ((Adr s.heap.objs.size ls.length).map ((fun _ => Value.none) ∘ Value.ref)).toArray }) h2.objs.size ((Adr s.heap.objs.size ls.length).map fun _ => Value.none) := Heap.get?_push_size _ rfl
    have k2 : ∀ c o, h2.get? c = some o → (h2.push { cls := .type "tuple", data := .seq ((Adr s.heap.objs.size ls.length).map ((fun _ => Value.none) ∘ Value.ref)).toArray }).get? c = some o := fun c o q => Heap.get?_push_of_some _ q
    rw [z1] at e2 ⊢
    generalize h2.push { cls := .type "tuple", data := .seq ((Adr s.heap.objs.size ls.length).map ((fun _ => Value.none) ∘ Value.ref)).toArray } = h3 at z2 e2 k2 ⊢
    have e3 : ZipAt (h3.push { cls := .type "zip", data := .fields #[.none, .bool false, .bool false, .ref (s.heap.objs.size + ls.length), .ref (s.heap.objs.size + ls.length + 1)] }) h3.objs.size (s.heap.objs.size + ls.length) (s.heap.objs.size + ls.length + 1) .none (.bool false) := Heap.get?_push_size _ rfl
    have k3 : ∀ c o, h3.get? c = some o → (h3.push { cls := .type "zip", data := .fields #[.none, .bool false, .bool false, .ref (s.heap.objs.size + ls.length), .ref (s.heap.objs.size + ls.length + 1)] }).get? c = some o := fun c o q => Heap.get?_push_of_some _ q
    rw [z2] at e3
    show R (.ok (.ret (.ref h3.objs.size))) _
    rw [z2]
    exact hR _ (fun c o q => k3 _ _ (k2 _ _ (k1 _ _ (kp _ _ q)))) (fun j l hl => (hi j l hl).at fun o q => k3 _ _ (k2 _ _ (k1 _ _ q))) (by rw [Heap.size_push, z2]) (k3 _ _ (k2 _ _ e1)) (k3 _ _ e2) e3
theorem chkA1 (a : Value) : checkTypeCall "zip" ⟨[a], []⟩ = pure () := by kernel_rfl
theorem chkB1 (a : Value) : checkBuiltinCall "zip.__new__" ⟨[.type "zip", a], []⟩ = pure () := by kernel_rfl
theorem chkC1 (ob a : Value) : argsOk "object.__init__" ⟨[ob, a], []⟩ := by unfold argsOk; kernel_rfl
theorem chkA2 (a b : Value) : checkTypeCall "zip" ⟨[a, b], []⟩ = pure () := by kernel_rfl
theorem chkB2 (a b : Value) : checkBuiltinCall "zip.__new__" ⟨[.type "zip", a, b], []⟩ = pure () := by kernel_rfl
theorem chkC2 (ob a b : Value) : argsOk "object.__init__" ⟨[ob, a, b], []⟩ := by unfold argsOk; kernel_rfl
theorem chkA3 (a b c : Value) : checkTypeCall "zip" ⟨[a, b, c], []⟩ = pure () := by kernel_rfl
theorem chkB3 (a b c : Value) : checkBuiltinCall "zip.__new__" ⟨[.type "zip", a, b, c], []⟩ = pure () := by kernel_rfl
theorem chkC3 (ob a b c : Value) : argsOk "object.__init__" ⟨[ob, a, b, c], []⟩ := by unfold argsOk; kernel_rfl
theorem chkA4 (a b c d : Value) : checkTypeCall "zip" ⟨[a, b, c, d], []⟩ = pure () := by kernel_rfl
theorem chkB4 (a b c d : Value) : checkBuiltinCall "zip.__new__" ⟨[.type "zip", a, b, c, d], []⟩ = pure () := by kernel_rfl
theorem chkC4 (ob a b c d : Value) : argsOk "object.__init__" ⟨[ob, a, b, c, d], []⟩ := by unfold argsOk; kernel_rfl
theorem chkA5 (a b c d e : Value) : checkTypeCall "zip" ⟨[a, b, c, d, e], []⟩ = pure () := by kernel_rfl
theorem chkB5 (a b c d e : Value) : checkBuiltinCall "zip.__new__" ⟨[.type "zip", a, b, c, d, e], []⟩ = pure () := by kernel_rfl
theorem chkC5 (ob a b c d e : Value) : argsOk "object.__init__" ⟨[ob, a, b, c, d, e], []⟩ := by unfold argsOk; kernel_rfl
theorem chkA6 (a b c d e f : Value) : checkTypeCall "zip" ⟨[a, b, c, d, e, f], []⟩ = pure () := by kernel_rfl
theorem chkB6 (a b c d e f : Value) : checkBuiltinCall "zip.__new__" ⟨[.type "zip", a, b, c, d, e, f], []⟩ = pure () := by kernel_rfl
theorem chkC6 (ob a b c d e f : Value) : argsOk "object.__init__" ⟨[ob, a, b, c, d, e, f], []⟩ := by unfold argsOk; kernel_rfl
theorem chkA7 (a b c d e f g : Value) : checkTypeCall "zip" ⟨[a, b, c, d, e, f, g], []⟩ = pure () := by kernel_rfl
theorem chkB7 (a b c d e f g : Value) : checkBuiltinCall "zip.__new__" ⟨[.type "zip", a, b, c, d, e, f, g], []⟩ = pure () := by kernel_rfl
theorem chkC7 (ob a b c d e f g : Value) : argsOk "object.__init__" ⟨[ob, a, b, c, d, e, f, g], []⟩ := by unfold argsOk; kernel_rfl
theorem chkA8 (a b c d e f g h : Value) : checkTypeCall "zip" ⟨[a, b, c, d, e, f, g, h], []⟩ = pure () := by kernel_rfl
theorem chkB8 (a b c d e f g h : Value) : checkBuiltinCall "zip.__new__" ⟨[.type "zip", a, b, c, d, e, f, g, h], []⟩ = pure () := by kernel_rfl
theorem chkC8 (ob a b c d e f g h : Value) : argsOk "object.__init__" ⟨[ob, a, b, c, d, e, f, g, h], []⟩ := by unfold argsOk; kernel_rfl
theorem chkA9 (a b c d e f g h i : Value) : checkTypeCall "zip" ⟨[a, b, c, d, e, f, g, h, i], []⟩ = pure () := by kernel_rfl
theorem chkB9 (a b c d e f g h i : Value) : checkBuiltinCall "zip.__new__" ⟨[.type "zip", a, b, c, d, e, f, g, h, i], []⟩ = pure () := by kernel_rfl
theorem chkC9 (ob a b c d e f g h i : Value) : argsOk "object.__init__" ⟨[ob, a, b, c, d, e, f, g, h, i], []⟩ := by unfold argsOk; kernel_rfl
theorem chk : ∀ (us : List Value), us ≠ [] → us.length ≤ 9 → checkTypeCall "zip" ⟨us, []⟩ = pure () ∧ checkBuiltinCall "zip.__new__" ⟨.type "zip" :: us, []⟩ = pure () ∧ ∀ obj, argsOk "object.__init__" ⟨obj :: us, []⟩
  | [], h, _ => (h rfl).elim
  | [a], _, _ => ⟨chkA1 _, chkB1 _, fun ob => chkC1 ob _⟩
  | [a, b], _, _ => ⟨chkA2 _ _, chkB2 _ _, fun ob => chkC2 ob _ _⟩
  | [a, b, c], _, _ => ⟨chkA3 _ _ _, chkB3 _ _ _, fun ob => chkC3 ob _ _ _⟩
  | [a, b, c, d], _, _ => ⟨chkA4 _ _ _ _, chkB4 _ _ _ _, fun ob => chkC4 ob _ _ _ _⟩
  | [a, b, c, d, e], _, _ => ⟨chkA5 _ _ _ _ _, chkB5 _ _ _ _ _, fun ob => chkC5 ob _ _ _ _ _⟩
  | [a, b, c, d, e, f], _, _ => ⟨chkA6 _ _ _ _ _ _, chkB6 _ _ _ _ _ _, fun ob => chkC6 ob _ _ _ _ _ _⟩
  | [a, b, c, d, e, f, g], _, _ => ⟨chkA7 _ _ _ _ _ _ _, chkB7 _ _ _ _ _ _ _, fun ob => chkC7 ob _ _ _ _ _ _ _⟩
  | [a, b, c, d, e, f, g, h], _, _ => ⟨chkA8 _ _ _ _ _ _ _ _, chkB8 _ _ _ _ _ _ _ _, fun ob => chkC8 ob _ _ _ _ _ _ _ _⟩
  | [a, b, c, d, e, f, g, h, i], _, _ => ⟨chkA9 _ _ _ _ _ _ _ _ _, chkB9 _ _ _ _ _ _ _ _ _, fun ob => chkC9 ob _ _ _ _ _ _ _ _ _⟩
  | _ :: _ :: _ :: _ :: _ :: _ :: _ :: _ :: _ :: _ :: r, _, h => by simp at h
end Fr

set_option Elab.async false
set_option linter.all false
set_option maxRecDepth 100000
namespace Fr
open PySem PySem.Spec PyProof.Rows L2
theorem sep_new (a b : Nat) (ls : List Addr) (h : ∀ l ∈ ls, l < a) : ZSep (a + ls.length + 2) (a + ls.length) (a + ls.length + 1) (Adr a ls.length) ls := by
  have m : ∀ c : Nat, c ∈ Adr a ls.length → a ≤ c ∧ c < a + ls.length := fun c hc => by
    obtain ⟨j, hj⟩ := List.getElem?_of_mem hc
    obtain ⟨e, l⟩ := adr_at hj
    have e : c = a + j := e
    omega
  have h' : ∀ c : Nat, c ∈ ls → c < a := h
  refine ⟨List.nodup_range', List.length_range', fun q => ?_, fun q => ?_, fun q => ?_, fun q => ?_, fun q => ?_, fun l hl q => ?_, Nat.ne_of_gt (by omega), Nat.ne_of_gt (by omega), Nat.ne_of_lt (by omega)⟩
  · have := (m _ q).2; exact absurd this (Nat.not_lt.mpr (Nat.le_add_right _ 2))
  · have := (m _ q).2; exact absurd this (Nat.not_lt.mpr (Nat.le_add_right _ 1))
  · have := (m _ q).2; exact absurd this (Nat.lt_irrefl _)
  · have := h' _ q; exact absurd this (Nat.not_lt.mpr (by omega))
  · have := h' _ q; exact absurd this (Nat.not_lt.mpr (by omega))
  · exact absurd (h' _ hl) (Nat.not_lt.mpr (m _ q).1)
def iZipS (K : PySem.W.Frag) (te : TE) : TI := fun σ H R => te σ H fun v H1 => ∃ (t : Addr) (ls : List Addr), v = .ref t ∧ SqT K H1 t (ls.map V.ref) ∧ ls ≠ [] ∧ ls.length ≤ 9 ∧ (∀ l ∈ ls, ∃ xs, SqT K H1 l xs) ∧ R (ItS K ls) H1
theorem vals_refs : ∀ {ls : List Addr} {us : List Value}, Vals (ls.map V.ref) us → us = ls.map Value.ref
  | [], _, .nil => rfl
  | l :: ls, _, .cons a r => by
    have e : _ = Value.ref l := a
    rw [e, vals_refs r]
    rfl
theorem keep_type {M : Model} {n : String} (h : Heap) : PySem.W.Looks M h (keeperOf (.type n)) .machine := fun A Q E s _ q => (show wpAny M A (pure Keeper.machine) Q E s from wpAny_pure q)
theorem star_zip {X : Cx} {pins : List (Addr × Obj)} {σ : L2.St} {H1 : Hp} {s1 : Shared} {u : Value} {v : V} {t : Addr} {ls : List Addr} {nm : Str} {npos : Pos} {R : It → Hp → Prop} (I1 : Inv X pins σ H1 s1) (r1 : RelV v u) (ev : v = .ref t) (ht : SqT X.K H1 t (ls.map V.ref)) (h0 : ls ≠ []) (h9 : ls.length ≤ 9)
    (hls : ∀ l ∈ ls, ∃ xs, SqT X.K H1 l xs) (q : R (ItS X.K ls) H1) :
    PySem.W.StarOf (model X.prog X.w) X.A X.xe u (fun vs s₂ => True ∧ wpAny (model X.prog X.w) X.A (call (.type "zip") ([] ++ vs)) (fun v s1 => wpAny (model X.prog X.w) X.A (pyIter v) (PIE X pins σ (.Name nm npos) R) X.xe s1) X.xe s₂) s1 := by
  subst ev
  have ru : u = Value.ref t := r1
  subst ru
  obtain ⟨items, rv, tp, hz⟩ := I1.tuple ht
  have ei := vals_refs rv
  obtain ⟨o, ho, hc, hn, hd⟩ := id tp
  have tt : s1.TypeIs (.ref t) "tuple" := ⟨o, ho, hc⟩
  have goal : wpAny (model X.prog X.w) X.A (collect (.ref t)) (fun vs s₂ => True ∧ wpAny (model X.prog X.w) X.A (call (.type "zip") ([] ++ vs)) (fun v s1 => wpAny (model X.prog X.w) X.A (pyIter v) (PIE X pins σ (.Name nm npos) R) X.xe s1) X.xe s₂) X.xe s1 := by
    refine wpAny_collect_seq t (.inr rfl) ho hc hd (fun h' kp => ?_) (by rw [List.size_toArray, ← rv.length]; exact hz)
    have J : Inv X pins σ H1 { s1 with heap := h' } := I1.kept (t' := s1.toks) kp
    refine ⟨trivial, ?_⟩
    rw [List.nil_append, List.toList_toArray, ei]
    obtain ⟨c1, c2, c3⟩ := chk (ls.map Value.ref) (by simpa using h0) (by simpa using h9)
    have tps : ∀ l ∈ ls, ∃ items, h'.IsTuple l items := fun l hl => by
      obtain ⟨xs, hx⟩ := hls l hl
      obtain ⟨its, _, tp, _⟩ := J.tuple hx
      exact ⟨_, tp⟩
    have lts : ∀ l ∈ ls, l < h'.objs.size := fun l hl => by
      obtain ⟨its, ⟨o, ho, _⟩⟩ := tps l hl
      exact Heap.lt_size ho
    refine callType_new F.called_zip (by decide) c1 c2 c3 F.entry_zip_new (meets_zipS ls) ⟨tps, by omega, fun h2 kp2 hi hs hTI hTO hzp => ?_⟩
    have J2 : Inv X pins σ H1 { s1 with heap := h2 } := J.kept (s := { s1 with heap := h' }) (t' := s1.toks) kp2
    refine ⟨⟨_, hzp, rfl⟩, pi_zipAny (s := { s1 with heap := h2 }) hzp ?_⟩
    have D := sep_new h'.objs.size 0 ls lts
    have la : (Adr h'.objs.size ls.length).length = ls.length := List.length_range'
    have ne : Adr h'.objs.size ls.length ≠ [] := fun q => by
      rw [q] at la
      exact h0 (List.eq_nil_of_length_eq_zero la.symm)
    refine ⟨_, _, _, ItS X.K ls, H1, rfl, J2, turn_zipS D ne (by rw [la]; omega), ⟨⟨.none, false, .inl rfl, hzp⟩, hTI, ⟨_, hTO, by rw [List.length_map]⟩, fun j i l e1 e2 => ?_⟩, fun c hcm => ?_, q⟩
    · rw [if_neg (Nat.not_lt_zero j), (adr_at e1).1]
      exact hi j l e2
    · have hle : h'.objs.size ≤ c := by
        rcases List.mem_cons.mp hcm with q | q
        · rw [q]; exact Nat.le_trans (Nat.le_add_right _ _) (Nat.le_add_right _ 2)
        rcases List.mem_cons.mp q with q | q
        · rw [q]; exact Nat.le_add_right _ _
        rcases List.mem_cons.mp q with q | q
        · rw [q]; exact Nat.le_trans (Nat.le_add_right _ _) (Nat.le_add_right _ 1)
        · obtain ⟨j, hj⟩ := List.getElem?_of_mem q
          rw [(adr_at hj).1]
          exact Nat.le_add_right _ _
      have f0 := J.fpOk hle (J.hok.fresh hle)
      exact f0
  unfold PySem.W.StarOf notIterableAtAll
  exact wpAny_bind (wpAny_specialOf tt PySem.F.slot_tuple_iter.lookup (wpAny_pure ⟨rfl, goal⟩))
theorem pi_zipS {X : Cx} {e : Expr} {te : TE} {nm : Str} {p p2 pos npos : Pos} (hg : Gl X "zip") (hm : X.mg "zip" = none) (he : PE X e te)
    (hs : starEach [.Starred e p2] X.env = [(true, eval e X.env)] := by rfl) : PI X (.Name nm npos) (.Call (.Name "zip" p) [.Starred e p2] [] pos) (iZipS X.K te) := by
  refine ⟨fun pins s σ H R I h => Call_ (ld_blt I hg hm PyProof.Rows.boot_zip (by
    rw [hs]
    refine PySem.W.ks_call (P := fun _ => True) rfl (fun h _ => ⟨.machine, .inr (.inl rfl), keep_type h⟩) (PySem.W.ks_lone (thn (he.run pins s σ H _ I h) fun u s1 ⟨v, H1, I1, r1, t, ls, ev, ht, h0, h9, hls, q⟩ => ?_))
    exact star_zip I1 r1 ev ht h0 h9 hls q))⟩
/-- a comprehension over zip(*t), all of one length -/
theorem lc_zipS {K : PySem.W.Frag} {ls : List Addr} {m : Nat} {g : TG} {tt : TT} {te : TE} {vs : List Nat} {σ : L2.St} {H1 : Hp} {D : Addr} {Qd : Hp → Prop} (h0 : ls ≠ []) (Pv : Nat → Hp → Prop) (p0 : Pv 0 (upd H1 D (.lst [])))
    (hq : ∀ i H, Pv i H → ∀ l ∈ ls, ∃ xs, SqT K H l xs ∧ xs.length = m)
    (hs : ∀ (i : Nat) (T : Addr) (cs : List V) (H : Hp), i < m → Pv i H → H T = none → cs.length = ls.length → (∀ (j : Nat) (l : Addr) (xs : List V), ls[j]? = some l → SqT K H l xs → ∃ x, xs[i]? = some x ∧ cs[j]? = some x) → g (.ref T) (wipe σ vs) (upd H T (.tup cs)) fun σ2 H2 => wipe σ2 vs = wipe σ vs ∧ tt σ2 H2 fun b H3 =>
      if b = true then te σ2 H3 fun y H4 => ∃ acc, H4 D = some (.lst acc) ∧ acc.length < sizeLine ∧ Pv (i + 1) (upd H4 D (.lst (acc ++ [y]))) else Pv (i + 1) H3) (hd : ∀ H, Pv m H → Qd H) :
    ∃ W : Nat → Nat → Hp → Prop, (∃ m, W 0 m (upd H1 D (.lst []))) ∧ ∀ i m H, W i m H → ((ItS K ls).stop i H ∧ Qd H) ∨ ((ItS K ls).go i H ∧ ∃ Nx : Hp → Prop,
      (∀ H', Nx H' → ∃ m', m' < m ∧ W (i + 1) m' H') ∧ ∀ x H', (ItS K ls).yld i H x H' → g x (wipe σ vs) H' fun σ2 H2 => wipe σ2 vs = wipe σ vs ∧ tt σ2 H2 fun b H3 =>
        if b = true then te σ2 H3 fun y H4 => ∃ acc, H4 D = some (.lst acc) ∧ acc.length < sizeLine ∧ Nx (upd H4 D (.lst (acc ++ [y]))) else Nx H3) := by
  refine ⟨fun i k H => k = m - i ∧ i ≤ m ∧ Pv i H, ⟨m, by simp, Nat.zero_le _, p0⟩, ?_⟩
  rintro i k H ⟨rfl, hi, p⟩
  have sq := hq i H p
  by_cases lt : i < m
  · refine .inr ⟨fun l hl => ?_, Pv (i + 1), fun H' p' => ⟨m - (i + 1), by omega, rfl, lt, p'⟩, fun v H' y => ?_⟩
    · obtain ⟨xs, hx, e⟩ := sq l hl
      exact ⟨xs, _, hx, List.getElem?_eq_getElem (by omega)⟩
    · obtain ⟨T, cs, rfl, hT, rfl, lc, hcs⟩ := y
      exact hs i T cs H lt p hT lc hcs
  · have e : i = m := by omega
    subst e
    cases ls with
    | nil => exact (h0 rfl).elim
    | cons l ls =>
      obtain ⟨xs, hx, e⟩ := sq l List.mem_cons_self
      exact .inl ⟨⟨l, xs, rfl, hx, by omega⟩, hd H p⟩
end Fr

set_option Elab.async false
set_option linter.all false
set_option maxRecDepth 100000
namespace Fr
open PySem PySem.Spec PyProof.Rows L2
/-! zip of a list and a tuple of one length -/
def ItLT (K : PySem.W.Frag) (a b : Addr) : It :=
  ⟨fun i H => ∃ (xs ys : List V) (x y : V), SqL K H a xs ∧ SqT K H b ys ∧ xs[i]? = some x ∧ ys[i]? = some y,
    fun i H v H' => ∃ T x y, v = .ref T ∧ H T = none ∧ H' = upd H T (.tup [x, y]) ∧ (∀ xs, SqL K H a xs → xs[i]? = some x) ∧ ∀ ys, SqT K H b ys → ys[i]? = some y,
    fun i H => ∃ xs ys : List V, SqL K H a xs ∧ SqT K H b ys ∧ xs.length = i ∧ ys.length = i⟩
theorem nm2 {c x y : Nat} (h1 : c ≠ x) (h2 : c ≠ y) : c ∉ [x, y] := List.not_mem_cons_of_ne_of_not_mem h1 (List.not_mem_cons_of_ne_of_not_mem h2 List.not_mem_nil)
theorem sep2 (n a b : Nat) (h1 : a < n) (h2 : b < n) : ZipSep2 (n + 4) (n + 2) (n + 3) n (n + 1) [n, a] [n + 1, b] where
  TIz := Nat.ne_of_lt (by omega)
  TOz := Nat.ne_of_lt (by omega)
  TITO := Nat.ne_of_lt (by omega)
  TIi1 := Nat.ne_of_gt (by omega)
  mem1 := List.mem_cons_self
  zf1 := nm2 (by omega) (by omega)
  Tf1 := nm2 (by omega) (by omega)
  TIi2 := Nat.ne_of_gt (by omega)
  mem2 := List.mem_cons_self
  zf2 := nm2 (by omega) (by omega)
  Tf2 := nm2 (by omega) (by omega)
  sep1_2 := nm2 (by omega) (by omega)
  sep2_1 := nm2 (by omega) (by omega)
theorem turn_zipLT {P : Program} {w : World} {K : PySem.W.Frag} {elts : List Expr} {kk : Nat} {tpos : Pos} {a b z TI TO i1 i2 : Addr} (S : ZipSep2 z TI TO i1 i2 [i1, a] [i2, b]) :
    Turn P w K (.Tuple elts kk tpos) (ItLT K a b) [z, TI, TO, i1, i2] z (fun i h => IsZip h z TI TO .none ∧ IsTupOf2 h TI (.ref i1) (.ref i2) ∧ (∃ x y, IsTupOf2 h TO x y) ∧ h.IsListIter i1 a i ∧ h.IsTupleIter i2 b i) where
  mem := by simp
  obj := fun i h st c hc => by
    obtain ⟨y1, y2, ⟨u, v, y3⟩, ⟨o1, e1, _, d1⟩, ⟨o2, e2, _, d2⟩⟩ := st
    have hc : c = z ∨ c = TI ∨ c = TO ∨ c = i1 ∨ c = i2 := by simpa using hc
    rcases hc with rfl | rfl | rfl | rfl | rfl
    · exact ⟨_, y1, fun v q => nomatch q⟩
    · exact ⟨_, y2, fun v q => nomatch q⟩
    · exact ⟨_, y3, fun v q => nomatch q⟩
    · exact ⟨o1, e1, fun v q => by rw [d1] at q; cases q⟩
    · exact ⟨o2, e2, fun v q => by rw [d2] at q; cases q⟩
  keep := fun i h h' st k => by
    obtain ⟨y1, y2, ⟨u, v, y3⟩, y4, y5⟩ := st
    exact ⟨k z (by simp) _ y1, k TI (by simp) _ y2, ⟨u, v, k TO (by simp) _ y3⟩, y4.at fun o q => k i1 (by simp) o q, y5.at fun o q => k i2 (by simp) o q⟩
  item := by
    intro X hP hw hK hc i pins s σ H E I hf st hg
    subst hP hw hK
    obtain ⟨y1, y2, ⟨u0, v0, y3⟩, y4, y5⟩ := st
    obtain ⟨xs, ys, x, y, qx, qy, hx, hy⟩ := hg
    obtain ⟨l1, r1, p1, _⟩ := I.list qx
    obtain ⟨l2, r2, p2, _⟩ := I.tuple qy
    obtain ⟨u, hu, ru⟩ := r1.get hx
    obtain ⟨v, hv, rv⟩ := r2.get hy
    have lz : z < s.heap.objs.size := Heap.lt_size y1
    have na : a ≠ i1 := fun q => by
      have h1 := p1.isList
      subst q
      obtain ⟨o, e, c, _⟩ := h1
      obtain ⟨o', e', c', _⟩ := y4
      rw [e] at e'
      cases e'
      rw [c] at c'
      injection c' with q
      exact absurd q (by decide)
    have nb : b ≠ i2 := fun q => by
      subst q
      obtain ⟨o, e, c, _⟩ := p2
      obtain ⟨o', e', c', _⟩ := y5
      rw [e] at e'
      cases e'
      rw [c] at c'
      injection c' with q
      exact absurd q (by decide)
    refine wpAny_pyNext_zipD2_item S (Draws.list (A := X.A.in1) (I.ok.hd hc) i1 a na l1.toArray) (Draws.tuple (A := X.A.in1) (I.ok.hd hc) i2 b nb l2.toArray) y1 y2 y3 ⟨y4, p1.isList⟩ ⟨y5, p2⟩
      (by rw [List.size_toArray]; exact (List.getElem?_eq_some_iff.mp hu).1) (by rw [List.size_toArray]; exact (List.getElem?_eq_some_iff.mp hv).1) fun x1 x2 h' tk e1 e2 b1 b2 b3 b4 b5 b6 b7 => ?_
    have e1 : x1 = u := by
      have : l1.toArray[i]? = some u := by simpa using hu
      rw [this] at e1
      exact (Option.some.inj e1).symm
    have e2 : x2 = v := by
      have : l2.toArray[i]? = some v := by simpa using hv
      rw [this] at e2
      exact (Option.some.inj e2).symm
    subst e1 e2
    refine ⟨_, rfl, wpAny_letOwnedTupleGo_zip (s := { s with heap := h', toks := tk }) b1 fun h2 c1 sb => ?_⟩
    have yN : h2.get? s.heap.objs.size = some { cls := .type "tuple", data := .seq #[x1, x2] } := (sb.2 _ (Nat.ne_of_gt lz)).trans b5
    have new : ObjOk X.prog X.w (upd H s.heap.objs.size (.tup [x, y])) h2 s.heap.objs.size (.tup [x, y]) :=
      ⟨by show 2 ≤ sizeLine; decide, [x1, x2], .cons ru (.cons rv .nil), ⟨_, yN, rfl, _, rfl⟩⟩
    have J := I.turnedNew (h' := h2) (t' := tk) (ch := [z, TI, TO, i1, i2]) (fun c o hb q => (sb.2 c fun q' => hb (by simp [q'])).trans (b7 c o (fun q' => hb (by simp [q'])) (fun q' => hb (by simp [q'])) (fun q' => hb (by simp [q'])) (fun q' => hb (by simp [q'])) q)) hf (Nat.le_refl _) new
    refine ⟨.ref s.heap.objs.size, _, J, rfl, ⟨_, x, y, rfl, I.hok.fresh (Nat.le_refl _), rfl, fun l hl => by rw [I.list_inj hl qx]; exact hx, fun l hl => by rw [I.tuple_inj hl qy]; exact hy⟩,
      ⟨c1, (sb.2 _ S.TIz).trans (b7 _ _ S.TIz S.TITO S.TIi1 S.TIi2 y2), ⟨x1, x2, (sb.2 _ S.TOz).trans b2⟩, b3.1.at fun o q => (sb.2 _ S.zi1.symm).trans q, b4.1.at fun o q => (sb.2 _ S.zi2.symm).trans q⟩, fun c hcm => ?_⟩
    have lt_c : c < s.heap.objs.size := by
      have hc : c = z ∨ c = TI ∨ c = TO ∨ c = i1 ∨ c = i2 := by simpa using hcm
      rcases hc with rfl | rfl | rfl | rfl | rfl
      · exact lz
      · exact Heap.lt_size y2
      · exact Heap.lt_size y3
      · obtain ⟨_, e, _⟩ := y4; exact Heap.lt_size e
      · obtain ⟨_, e, _⟩ := y5; exact Heap.lt_size e
    rw [upd_ne (Nat.ne_of_lt lt_c)]
    exact (hf c hcm).1
  done := by
    intro X hP hw hK hc i pins s σ H E I hf st hg
    subst hP hw hK
    obtain ⟨y1, y2, ⟨u0, v0, y3⟩, y4, y5⟩ := st
    obtain ⟨xs, ys, qx, qy, hx, hy⟩ := hg
    obtain ⟨l1, r1, p1, _⟩ := I.list qx
    obtain ⟨l2, r2, p2, _⟩ := I.tuple qy
    have n1 := r1.length
    have n2 := r2.length
    have na : a ≠ i1 := fun q => by
      have h1 := p1.isList
      subst q
      obtain ⟨o, e, c, _⟩ := h1
      obtain ⟨o', e', c', _⟩ := y4
      rw [e] at e'
      cases e'
      rw [c] at c'
      injection c' with q
      exact absurd q (by decide)
    have nb : b ≠ i2 := fun q => by
      subst q
      obtain ⟨o, e, c, _⟩ := p2
      obtain ⟨o', e', c', _⟩ := y5
      rw [e] at e'
      cases e'
      rw [c] at c'
      injection c' with q
      exact absurd q (by decide)
    exact wpAny_pyNext_zipD2_end S (Draws.list (A := X.A.in1) (I.ok.hd hc) i1 a na l1.toArray) (Draws.tuple (A := X.A.in1) (I.ok.hd hc) i2 b nb l2.toArray) y1 y2 y3 ⟨y4, p1.isList⟩ ⟨y5, p2⟩
      (by rw [List.size_toArray]; omega) (by rw [List.size_toArray]; omega) (.inl (by rw [List.size_toArray]; omega)) fun h' tk hk => ⟨rfl, I.turnedL (t' := tk) (ch := [z, TI, TO, i1, i2]) (fun c o hb q => hk c o (fun q' => hb (by simp [q'])) (fun q' => hb (by simp [q'])) (fun q' => hb (by simp [q'])) (fun q' => hb (by simp [q'])) q) hf⟩
  self := fun A i s Q E st h => wpAny_pyIter_zip st.1 h
def iZipLT (K : PySem.W.Frag) (ta : TA) : TI := fun σ H R => ta σ H fun vs H1 => ∃ a b xs ys, vs = [.ref a, .ref b] ∧ SqL K H1 a xs ∧ SqT K H1 b ys ∧ R (ItLT K a b) H1
theorem pi_zipLT {X : Cx} {e e2 : Expr} {ta : TA} {p pos tpos : Pos} {elts : List Expr} {kk : Nat} (hg : Gl X "zip") (hm : X.mg "zip" = none) (ha : PA X [e, e2] ta)
    (hs : starEach [e, e2] X.env = (false, eval e X.env) :: starEach [e2] X.env := by rfl) (hpl : (backTo pos (starEach [e2] X.env)).any (·.1) = false := by rfl) :
    PI X (.Tuple elts kk tpos) (.Call (.Name "zip" p) [e, e2] [] pos) (iZipLT X.K ta) := by
  refine ⟨fun pins s σ H R I h => Call_ (ld_blt I hg hm PyProof.Rows.boot_zip (PyProof.Rows.callWith_type1 (thn (ha.run pos pins s σ H _ I h) fun us s1 ⟨vs, H1, I1, r1, a, b, xs, ys, ev, qx, qy, q⟩ => ?_) hs hpl))⟩
  subst ev
  obtain ⟨u1, u2, rfl, ra, rb⟩ : ∃ u1 u2, us = [u1, u2] ∧ u1 = Value.ref a ∧ u2 = Value.ref b := by
    cases r1 with
    | cons r rr =>
      cases rr with
      | cons r' rr =>
        cases rr
        exact ⟨_, _, rfl, r, r'⟩
  subst ra rb
  obtain ⟨l1, v1, p1, _⟩ := I1.list qx
  obtain ⟨l2, v2, p2, _⟩ := I1.tuple qy
  have la : a < s1.heap.objs.size := p1.lt
  have lb : b < s1.heap.objs.size := by
    obtain ⟨o, ho, _⟩ := id p2
    exact Heap.lt_size ho
  refine zip_begins2 (begins_list a l1.toArray) (begins_tuple b l2.toArray) p1.isList p2 fun h' y1 y2 y3 g1 g2 hs hk => wpAny_pyIter_zip y1 ?_
  have J : Inv X pins σ H1 { s1 with heap := h' } := I1.kept (t' := s1.toks) hk
  refine ⟨s1.heap.objs.size + 4, [s1.heap.objs.size + 4, s1.heap.objs.size + 2, s1.heap.objs.size + 3, s1.heap.objs.size, s1.heap.objs.size + 1], _, ItLT X.K a b, H1, rfl, J, turn_zipLT (sep2 s1.heap.objs.size a b la lb), ⟨y1, y2, ⟨_, _, y3⟩, ⟨_, g1, rfl, rfl⟩, ⟨_, g2, rfl, rfl⟩⟩, fun c hcm => ?_, q⟩
  have hle : s1.heap.objs.size ≤ c := by
    have hc : c = s1.heap.objs.size + 4 ∨ c = s1.heap.objs.size + 2 ∨ c = s1.heap.objs.size + 3 ∨ c = s1.heap.objs.size ∨ c = s1.heap.objs.size + 1 := by simpa using hcm
    rcases hc with q | q | q | q | q <;> rw [q]
    · exact Nat.le_add_right _ _
    · exact Nat.le_add_right _ _
    · exact Nat.le_add_right _ _
    · exact Nat.le_refl _
    · exact Nat.le_add_right _ _
  exact I1.fpOk hle (I1.hok.fresh hle)
/-- a comprehension over zip of a list and a tuple -/
theorem lc_zipLT {K : PySem.W.Frag} {a b : Addr} {xs ys : List V} {g : TG} {tt : TT} {te : TE} {vs : List Nat} {σ : L2.St} {H1 : Hp} {D : Addr} {Qd : Hp → Prop} (hl : xs.length = ys.length) (Pv : Nat → Hp → Prop) (h0 : Pv 0 (upd H1 D (.lst [])))
    (hq : ∀ i H, Pv i H → SqL K H a xs ∧ SqT K H b ys)
    (hs : ∀ (i : Nat) (x y : V) (T : Addr) (H : Hp), xs[i]? = some x → ys[i]? = some y → Pv i H → H T = none → g (.ref T) (wipe σ vs) (upd H T (.tup [x, y])) fun σ2 H2 => wipe σ2 vs = wipe σ vs ∧ tt σ2 H2 fun b H3 =>
      if b = true then te σ2 H3 fun y H4 => ∃ acc, H4 D = some (.lst acc) ∧ acc.length < sizeLine ∧ Pv (i + 1) (upd H4 D (.lst (acc ++ [y]))) else Pv (i + 1) H3) (hd : ∀ H, Pv xs.length H → Qd H) :
    ∃ W : Nat → Nat → Hp → Prop, (∃ m, W 0 m (upd H1 D (.lst []))) ∧ ∀ i m H, W i m H → ((ItLT K a b).stop i H ∧ Qd H) ∨ ((ItLT K a b).go i H ∧ ∃ Nx : Hp → Prop,
      (∀ H', Nx H' → ∃ m', m' < m ∧ W (i + 1) m' H') ∧ ∀ x H', (ItLT K a b).yld i H x H' → g x (wipe σ vs) H' fun σ2 H2 => wipe σ2 vs = wipe σ vs ∧ tt σ2 H2 fun b H3 =>
        if b = true then te σ2 H3 fun y H4 => ∃ acc, H4 D = some (.lst acc) ∧ acc.length < sizeLine ∧ Nx (upd H4 D (.lst (acc ++ [y]))) else Nx H3) := by
  refine ⟨fun i m H => m = xs.length - i ∧ i ≤ xs.length ∧ Pv i H, ⟨xs.length, by simp, Nat.zero_le _, h0⟩, ?_⟩
  rintro i m H ⟨rfl, hi, p⟩
  obtain ⟨qx, qy⟩ := hq i H p
  by_cases lt : i < xs.length
  · refine .inr ⟨⟨xs, ys, _, _, qx, qy, List.getElem?_eq_getElem lt, List.getElem?_eq_getElem (by omega)⟩, Pv (i + 1), fun H' p' => ⟨xs.length - (i + 1), by omega, rfl, lt, p'⟩, fun v H' w' => ?_⟩
    obtain ⟨T, x, y, rfl, hT, rfl, fx, fy⟩ := w'
    exact hs i x y T H (fx xs qx) (fy ys qy) p hT
  · have e : i = xs.length := by omega
    subst e
    exact .inl ⟨⟨xs, ys, qx, qy, rfl, hl.symm⟩, hd H p⟩
end Fr

set_option Elab.async false
set_option linter.all false
set_option maxRecDepth 100000
namespace Fr
open PySem PySem.Spec PyProof.Rows L2

def topS (i : Nat) : Stmt := PySem.Challenge.pw_fullrooms_k05_places_and_things.main.body.getD i (.Pass ⟨0, 0, 0, 0⟩)

abbrev sDeck : Stmt := topS 4
abbrev nDeck : List Str := ["_law_script", "_law_cells", "_law_cell"]
theorem cDeck : FnScope nDeck ["_law_script"] (defScope sDeck) :=
  ⟨rfl, rfl, rfl, by decide +kernel, rfl, by decide +kernel, by decide +kernel⟩

abbrev sNext : Stmt := topS 5
abbrev nNext : List Str := ["_law_deck_here", "_law_many", "_law_rest", "_law_cell", "_law_mixed"]
theorem cNext : FnScope nNext ["_law_deck_here", "_law_many"] (defScope sNext) :=
  ⟨rfl, rfl, rfl, by decide +kernel, rfl, by decide +kernel, by decide +kernel⟩

abbrev sOne : Stmt := topS 6
abbrev nOne : List Str := ["_law_deck_here", "_law_some"]
theorem cOne : FnScope nOne ["_law_deck_here", "_law_some"] (defScope sOne) :=
  ⟨rfl, rfl, rfl, by decide +kernel, rfl, by decide +kernel, by decide +kernel⟩

section
variable {P : Program} {w : World} {K : PySem.W.Frag} {mg : Str → Option Value} {base : Heap}
def spNext : Sp := fun vs H Q _ => ∃ (d a : Addr) (b : Sd) (m : Int) (c : Nat), vs = [.ref d, .int m] ∧ Deck d a b H c ∧ 0 < m ∧ m < 2 ^ 100 ∧ c < 2 ^ 30 ∧
  ∀ H' r, Deck d a b H' (c + 1) → Kp d a b H H' → 0 ≤ r → r < m → Q (.int r) H'
theorem upd_sd {l : Option Addr} {H : Hp} {p : Addr} {u : HO} (h : ∀ y, l = some y → ∃ o, H y = some o) : ∀ y, l = some y → ∃ o, (upd H p u) y = some o := fun y hy => by
  by_cases e : y = p
  · exact ⟨u, by rw [e]; exact upd_same⟩
  · rw [upd_ne e]
    exact h y hy
theorem small100 {m : Int} (h0 : 0 < m) (h : m < 2 ^ 100) : CDivW i m := wide_div (b := 100) h0 (by omega) (by decide) (by decide)
theorem ok_next {f : Addr} {fd : FuncData} {k : Nat} (F : Fun K "_law_next" "_law_next" sNext f fd) (m_len : mg "len" = none) :
    FnOk P w K mg base CX0 (k + 1) f fd ["_law_deck_here", "_law_many"] spNext := by
  refine F.ok cNext (fun vs H Q E h => ?_) (fun cdv A outer s H vs Q E hr h => ?_)
  · obtain ⟨d, a, b, m, c, rfl, _⟩ := h
    rfl
  · obtain ⟨d, a, b, m, c, rfl, D, m0, m1, hc, q⟩ := h
    refine ⟨_, (pss_cons (ps_while PassesOwn.never (pt_cmpR (op_neD hr.units) (pe_ix ix_list (pv 0) pe_int (fun _ _ => rfl)) (pe_lst pa_nil) (nomark _)) (pss_cons (ps_set (i := 2) cNext.nd rfl (.inl rfl) (pe_ix ix_list (pe_ix ix_list (pv 0) pe_int (fun _ _ => rfl)) pe_int (fun _ _ => rfl)))
        (pss_cons (ps_if (pt_cmpR op_gt (pv 2) pe_int (nomark _)) (pss_cons (ps_asg (pe_op op_fdivW (pv 2) (pv 1)) (pg_sub (pe_ix ix_list (pv 0) pe_int (fun _ _ => rfl)) pe_int set_list))
        (pss_one (ps_ret (pe_op op_mod (pv 2) (pv 1))))) pss_nil)
        (pss_one (ps_expr (pe_bm PySem.F.plainAttrs_list PySem.F.slot_list_pop PySem.F.type_list_pop mt_popAt (pe_ix ix_list (pv 0) pe_int (fun _ _ => rfl)) (pa_cons pe_int pa_nil)))))))
        (pss_cons (ps_asg (pe_op op_add (pe_ix ix_list (pv 0) pe_int (fun _ _ => rfl)) pe_int) (pg_sub (pv 0) pe_int set_list))
        (pss_cons (ps_set (i := 3) cNext.nd rfl (.inl rfl) (pe_op op_mod (pe_ix ix_list (pe_ix ix_list (pv 0) pe_int (fun _ _ => rfl)) (pe_op op_mod (pe_ix ix_list (pv 0) pe_int (fun _ _ => rfl)) (pe_callB call_len_seq (by rfl) m_len PySem.boot_len (pa_cons (pe_ix ix_list (pv 0) pe_int (fun _ _ => rfl)) pa_nil))) (fun _ _ => rfl)) pe_int))
        (pss_cons (ps_set (i := 4) cNext.nd rfl (.inl rfl) (pe_op op_add (pe_op op_add (pe_op op_mul (pv 3) (pe_op op_add pe_int (pe_op op_mul pe_int (pe_ix ix_list (pv 0) pe_int (fun _ _ => rfl))))) (pe_op op_mul (pe_op op_mul pe_int (pe_ix ix_list (pv 0) pe_int (fun _ _ => rfl))) (pe_ix ix_list (pv 0) pe_int (fun _ _ => rfl)))) pe_int))
        (pss_cons (ps_set (i := 4) cNext.nd rfl (.inl rfl) (pe_op op_mod (pv 4) pe_int))
        (pss_one (ps_ret (pe_op op_mod (pe_op op_fdivW (pe_op op_mod (pe_op op_mul (pv 4) (pv 4)) pe_int) pe_int) (pv 1))))))))), ?_⟩
    have nda := D.da
    have ndb := D.db
    have nab := D.ne
    -- the while
    refine ⟨fun z σ H2 => ∃ (y2 y3 y4 : Option V) (big cells : List Int) (n : Int), σ = [some (.ref d), some (.int m), y2, y3, y4] ∧ z = big.length ∧
      H2 d = some (.lst [.ref a, .ref b.b, .int n]) ∧ H2 a = some (.lst (big.map V.int)) ∧ H2 b.b = some (.lst (cells.map V.int)) ∧ big.length ≤ 63 ∧ (∀ z ∈ big, 0 ≤ z) ∧
      0 < cells.length ∧ cells.length ≤ 64 ∧ (∀ z ∈ cells, 0 ≤ z) ∧ 0 ≤ n ∧ n ≤ (c : Int) ∧ Kp d a b H H2 ∧ (∀ y, b.l = some y → ∃ o, H2 y = some o), ?_, fun z σ H2 hW => ?_⟩
    · obtain ⟨big, cells, n, h1, h2, h3, r⟩ := D.ex
      exact ⟨big.length, none, none, none, big, cells, n, rfl, rfl, h1, h2, h3, r.1, r.2.1, r.2.2.1, r.2.2.2.1, r.2.2.2.2.1, r.2.2.2.2.2.1, r.2.2.2.2.2.2, Kp.refl, D.sd⟩
    · obtain ⟨y2, y3, y4, big, cells, n, rfl, rfl, h1, h2, h3, l1, p1, l0, l2, p2, n0, nc, kp, sd⟩ := hW
      -- deck[0] != []
      refine ⟨.ref d, rfl, d, _, 0, .ref a, rfl, rfl, SqL.of h1, at0, Nat.zero_le _, fun e ne => ?_⟩
      have sm : Same H2 (upd H2 e (.lst [])) := same_new ne
      have g1 := sm _ _ h1
      have g2 := sm _ _ h2
      have g3 := sm _ _ h3
      refine ⟨.list (big.map PyData.int), .list [], .lst (SqL.of g2) (dp_ints big), .lst (SqL.of upd_same) .nil, shaped_ints _, shaped_nil, _, rfl, ?_⟩
      rw [eqv_nil]
      have kp2 : Kp d a b H (upd H2 e (.lst [])) := kp.trans (Kp.of sm)
      have sd2 : ∀ y, b.l = some y → ∃ o, (upd H2 e (.lst [])) y = some o := fun y hy => let ⟨o, h⟩ := sd y hy; ⟨o, sm _ _ h⟩
      generalize upd H2 e (.lst []) = H3 at g1 g2 g3 kp2 sd2
      cases big with
      | cons x r =>
        refine iteT ?_
        have x0 : 0 ≤ x := p1 x List.mem_cons_self
        refine ⟨fun σ' H' => ∃ (y2 y3 y4 : Option V) (cells : List Int) (n : Int), σ' = [some (.ref d), some (.int m), y2, y3, y4] ∧
            H' d = some (.lst [.ref a, .ref b.b, .int n]) ∧ H' a = some (.lst (r.map V.int)) ∧ H' b.b = some (.lst (cells.map V.int)) ∧ r.length ≤ 63 ∧ (∀ z ∈ r, 0 ≤ z) ∧
            0 < cells.length ∧ cells.length ≤ 64 ∧ (∀ z ∈ cells, 0 ≤ z) ∧ 0 ≤ n ∧ n ≤ (c : Int) ∧ Kp d a b H H' ∧ (∀ y, b.l = some y → ∃ o, H' y = some o), fun σ' H' hN => ?_, ?_⟩
        · obtain ⟨y2, y3, y4, cells, n, e1, t⟩ := hN
          exact ⟨r.length, Nat.lt_succ_self _, y2, y3, y4, r, cells, n, e1, rfl, t⟩
        · -- rest = deck[0][0]
          refine ⟨.ref d, rfl, d, _, 0, .ref a, rfl, rfl, SqL.of g1, at0, a, _, 0, .int x, rfl, rfl, SqL.of g2, at0, ?_⟩
          -- if rest > 0
          refine ⟨.int x, rfl, x, 0, rfl, rfl, _, rfl, ite2 (fun hx => ?_) (fun hx => ?_)⟩
          · have hx : 0 < x := of_decide_eq_true hx
            refine ⟨.int x, rfl, .int m, rfl, x, m, rfl, rfl, small100 m0 m1, .ref d, rfl, d, _, 0, .ref a, rfl, rfl, SqL.of g1, at0, a, _, 0, 0, rfl, rfl, g2, ix_first, ?_⟩
            refine ⟨.int x, rfl, .int m, rfl, x, m, rfl, rfl, m0, ?_⟩
            refine q _ _ ⟨⟨x / m :: r, cells, n, ?_, ?_, ?_, l1, ?_, l0, l2, p2, n0, by omega⟩, nab, upd_sd sd2⟩ ⟨fun y o hy hn => ?_⟩ (Int.emod_nonneg _ (by omega)) (Int.emod_lt_of_pos _ m0)
            · rw [upd_ne nda]; exact g1
            · rw [upd_same]; rfl
            · rw [upd_ne nab.symm]; exact g3
            · intro z hz
              rcases List.mem_cons.mp hz with e1 | e1
              · rw [e1]; exact Int.ediv_nonneg x0 (by omega)
              · exact p1 z (List.mem_cons_of_mem _ e1)
            · rw [upd_ne fun z => hn (.inr (.inl z))]
              exact kp2.run y o hy hn
          · -- deck[0].pop(0)
            refine ⟨.ref d, rfl, d, _, 0, .ref a, rfl, rfl, SqL.of g1, at0, .inl ⟨rfl, _, SqL.of g2⟩, a, _, 0, 0, .int x, rfl, rfl, g2, by decide, by decide, ?_, rfl, ?_⟩
            · have e1 : (0 : Int) < (((x :: r).map V.int).length : Int) := by
                rw [List.length_map, List.length_cons]
                omega
              simp [seqIndex?]
            · refine ⟨some (.int x), y3, y4, cells, n, rfl, ?_, ?_, ?_, by rw [List.length_cons] at l1; omega, fun z hz => p1 z (List.mem_cons_of_mem _ hz), l0, l2, p2, n0, nc, ⟨fun y o hy hn => ?_⟩, upd_sd sd2⟩
              · rw [upd_ne nda]; exact g1
              · rw [upd_same]; rfl
              · rw [upd_ne nab.symm]; exact g3
              · rw [upd_ne fun z => hn (.inr (.inl z))]
                exact kp2.run y o hy hn
      | nil =>
        refine iteF ?_
        -- deck[2] = deck[2] + 1
        refine ⟨.ref d, rfl, d, _, 2, .int n, rfl, rfl, SqL.of g1, at2, n, 1, rfl, rfl, .ref d, rfl, d, _, 2, 2, rfl, rfl, g1, rfl, ?_⟩
        have f1 : upd H3 d (.lst ([.ref a, .ref b.b, .int n].set 2 (.int (n + 1)))) d = some (.lst [.ref a, .ref b.b, .int (n + 1)]) := upd_same
        have f2 : upd H3 d (.lst ([.ref a, .ref b.b, .int n].set 2 (.int (n + 1)))) a = some (.lst []) := by
          rw [upd_ne nda.symm]; exact g2
        have f3 : upd H3 d (.lst ([.ref a, .ref b.b, .int n].set 2 (.int (n + 1)))) b.b = some (.lst (cells.map V.int)) := by
          rw [upd_ne ndb.symm]; exact g3
        have kp3 : Kp d a b H (upd H3 d (.lst ([.ref a, .ref b.b, .int n].set 2 (.int (n + 1))))) := ⟨fun y o hy hn => by
          rw [upd_ne fun z => hn (.inl z)]
          exact kp2.run y o hy hn⟩
        have sd3 : ∀ y, b.l = some y → ∃ o, (upd H3 d (.lst ([.ref a, .ref b.b, .int n].set 2 (.int (n + 1))))) y = some o := upd_sd sd2
        generalize upd H3 d (.lst ([.ref a, .ref b.b, .int n].set 2 (.int (n + 1)))) = H4 at f1 f2 f3 kp3 sd3
        have dk : Deck d a b H4 (c + 1) := ⟨⟨[], cells, n + 1, f1, f2, f3, Nat.zero_le _, by simp, l0, l2, p2, by omega, by omega⟩, nab, sd3⟩
        -- the cell
        have hl : ((cells.map V.int).length : Int) = (cells.length : Int) := by rw [List.length_map]
        have r0 : 0 ≤ (n + 1) % (cells.length : Int) := Int.emod_nonneg _ (by omega)
        have r1 : (n + 1) % (cells.length : Int) < (cells.length : Int) := Int.emod_lt_of_pos _ (by omega)
        obtain ⟨j, ej⟩ : ∃ j : Nat, (n + 1) % (cells.length : Int) = (j : Int) := ⟨_, (Int.toNat_of_nonneg r0).symm⟩
        have hj : j < cells.length := by omega
        have gj : (cells.map V.int)[j]? = some (.int cells[j]) := by
          rw [List.getElem?_map, List.getElem?_eq_getElem hj]
          rfl
        refine ⟨.ref d, rfl, d, _, 1, .ref b.b, rfl, rfl, SqL.of f1, at1, .ref d, rfl, d, _, 2, .int (n + 1), rfl, rfl, SqL.of f1, at2, .ref d, rfl, d, _, 1, .ref b.b, rfl, rfl, SqL.of f1, at1,
          b.b, _, rfl, .inl (SqL.of f3), n + 1, _, rfl, rfl, ?_, b.b, _, _, .int cells[j], rfl, rfl, SqL.of f3, ?_, cells[j], 2147483647, rfl, rfl, (by show (0 : Int) < 2147483647; decide), ?_⟩
        · show (0 : Int) < ((cells.map V.int).length : Int)
          rw [hl]; omega
        · rw [hl, ej]
          exact atI_nat gj
        have c0 : 0 ≤ cells[j] % 2147483647 := Int.emod_nonneg _ (by decide)
        have c1 : cells[j] % 2147483647 < 2147483647 := Int.emod_lt_of_pos _ (by decide)
        obtain ⟨cell, ec⟩ : ∃ z, z = cells[j] % 2147483647 := ⟨_, rfl⟩
        rw [← ec] at c0 c1
        simp only [← ec]
        -- mixed
        refine ⟨.int cell, rfl, .ref d, rfl, d, _, 2, .int (n + 1), rfl, rfl, SqL.of f1, at2, 69621, n + 1, rfl, rfl, .inl ⟨by decide, by decide⟩, 48271, _, rfl, rfl, cell, _, rfl, rfl, .inl ⟨by omega, by omega⟩,
          .ref d, rfl, d, _, 2, .int (n + 1), rfl, rfl, SqL.of f1, at2, 40692, n + 1, rfl, rfl, .inl ⟨by decide, by decide⟩, .ref d, rfl, d, _, 2, .int (n + 1), rfl, rfl, SqL.of f1, at2,
          _, n + 1, rfl, rfl, .inr ⟨by omega, by omega⟩, _, _, rfl, rfl, _, 11, rfl, rfl, ?_⟩
        refine ⟨_, rfl, _, 2147483629, rfl, rfl, (by show (0 : Int) < 2147483629; decide), ?_⟩
        have b0 : 0 ≤ (cell * (48271 + 69621 * (n + 1)) + 40692 * (n + 1) * (n + 1) + 11) % 2147483629 := Int.emod_nonneg _ (by decide)
        have b1 : (cell * (48271 + 69621 * (n + 1)) + 40692 * (n + 1) * (n + 1) + 11) % 2147483629 < 2147483629 := Int.emod_lt_of_pos _ (by decide)
        obtain ⟨mixed, em⟩ : ∃ z, z = (cell * (48271 + 69621 * (n + 1)) + 40692 * (n + 1) * (n + 1) + 11) % 2147483629 := ⟨_, rfl⟩
        rw [← em] at b0 b1
        simp only [← em]
        refine ⟨.int mixed, rfl, .int mixed, rfl, mixed, mixed, rfl, rfl, .inl ⟨by omega, by omega⟩, _, 2147483587, rfl, rfl, (by show (0 : Int) < 2147483587; decide), _, 16, rfl, rfl, wide_div (b := 5) (by decide) (by decide) (by decide) (by decide),
          .int m, rfl, _, m, rfl, rfl, m0, ?_⟩
        exact q _ _ dk kp3 (Int.emod_nonneg _ (by omega)) (Int.emod_lt_of_pos _ m0)
def spDeck (K : PySem.W.Frag) : Sp := fun vs H Q _ => ∃ (e : Addr) (ns : List Int), vs = [.ref e] ∧ SqL K H e (ns.map V.int) ∧ ns.length ≤ 63 ∧
  ∀ H' d a b, Same H H' → Deck d a b H' 0 → b.l = none → Q (.ref d) H'
def absI (z : Int) : Int := if z < 0 then -z else z
theorem absI_nn (z : Int) : 0 ≤ absI z := by
  unfold absI
  split <;> omega
theorem ok_deck {f : Addr} {fd : FuncData} {k : Nat} (F : Fun K "_law_deck" "_law_deck" sDeck f fd) (m_len : mg "len" = none) (m_abs : mg "abs" = none) :
    FnOk P w K mg base CX0 (k + 1) f fd ["_law_script"] (spDeck K) := by
  refine F.ok cDeck (fun vs H Q E h => ?_) (fun cdv A outer s H vs Q E hr h => ?_)
  · obtain ⟨e, ns, rfl, _⟩ := h
    rfl
  · obtain ⟨e, ns, rfl, hS, hl, q⟩ := h
    refine ⟨_, (pss_cons (ps_setLc (i := 1) (own := [("_law_cell", 2)]) (g := gName 2) (tt := tYes)  rfl cDeck.nd rfl rfl (sw_true rfl rfl rfl (by decide +kernel)) (pi_list (pv 0)) (blkOk_by (N := nDeck) (sc := defScope sDeck) (by decide +kernel)) (fun _ _ _ _ _ => (pg_name (i := 2) cDeck.nd rfl (.inl rfl))) (fun _ _ _ _ _ => pts_nil) (fun _ _ _ _ _ => (pe_callB call_abs (by rfl) m_abs PyProof.Rows.boot_abs (pa_cons (pv 2) pa_nil))))
        (pss_one (ps_ret (pe_lst (pa_cons (pe_lc (own := [("_law_cell", 2)]) (g := gName 2)   rfl cDeck.nd (pi_list (pv 1)) (blkOk_by (N := nDeck) (sc := defScope sDeck) (by decide +kernel)) (fun _ _ _ _ _ => (pg_name (i := 2) cDeck.nd rfl (.inl rfl))) (fun _ _ _ _ _ => (pts_one (pt_cmpR op_ge (pv 2) (pe_op op_pow pe_int pe_int) (nomark _)))) (fun _ _ _ _ _ => (pv 2))) (pa_cons (pe_op op_cat (pv 1) (pe_lst (pa_cons (pe_op op_add (pe_callB call_len_seq (by rfl) m_len PySem.boot_len (pa_cons (pv 1) pa_nil)) pe_int) pa_nil))) (pa_cons pe_int pa_nil))))))), ?_⟩
    refine ⟨.ref e, rfl, e, rfl, ⟨_, hS⟩, fun D nD => lc_list (xs := ns.map V.int) (fun i H1 => Same H H1 ∧ H1 D = some (.lst (((ns.take i).map absI).map V.int)))
      ⟨same_new nD, upd_same⟩ (fun i H1 _ p => p.1.seq hS) (fun i x H1 hx p => ?_) (fun H1 p => ?_)⟩
    · obtain ⟨sm, hD⟩ := p
      rw [List.getElem?_map] at hx
      cases hi : ns[i]? with
      | none => rw [hi] at hx; cases hx
      | some z =>
        rw [hi] at hx
        have ex : V.int z = x := Option.some.inj hx
        subst ex
        refine ⟨rfl, .int z, rfl, z, rfl, _, hD, ?_, ?_, ?_⟩
        · rw [List.length_map, List.length_map, List.length_take]
          exact Nat.lt_of_le_of_lt (Nat.min_le_right _ _) (small1000 (by omega))
        · intro y o hy
          rw [upd_ne (ne_of_none hy nD)]
          exact sm y o hy
        · rw [upd_same, List.take_add_one, hi, List.map_append, List.map_append]
          rfl
    · obtain ⟨sm, hD⟩ := p
      rw [show List.take (ns.map V.int).length ns = ns by rw [List.length_map, List.take_length]] at hD
      -- the big ones
      refine ⟨.ref D, rfl, D, rfl, ⟨_, SqL.of hD⟩, fun B nB => lc_list (xs := (ns.map absI).map V.int) (fun i H2 => Same H1 H2 ∧ ∃ big : List Int, H2 B = some (.lst (big.map V.int)) ∧ big.length ≤ i ∧ ∀ z ∈ big, 0 ≤ z)
        ⟨same_new nB, [], upd_same, Nat.zero_le _, by simp⟩ (fun i H2 _ p => SqL.of (p.1 _ _ hD)) (fun i x H2 hx p => ?_) (fun H2 p => ?_)⟩
      · obtain ⟨sm2, big, hB, lb, pb⟩ := p
        rw [List.getElem?_map, List.getElem?_map] at hx
        cases hi : ns[i]? with
        | none => rw [hi] at hx; cases hx
        | some z =>
          rw [hi] at hx
          have ex : V.int (absI z) = x := Option.some.inj hx
          subst ex
          have hli : i < ns.length := (List.getElem?_eq_some_iff.mp hi).1
          refine ⟨rfl, .int (absI z), rfl, 10, 18, rfl, rfl, ⟨by decide, by decide, by decide⟩, absI z, _, rfl, rfl, _, rfl, ite2 (fun _ => ?_) (fun _ => ?_)⟩
          · refine ⟨.int (absI z), rfl, _, hB, ?_, ?_, big ++ [absI z], ?_, ?_, ?_⟩
            · rw [List.length_map]
              exact small1000 (by omega)
            · intro y o hy
              rw [upd_ne (ne_of_none hy nB)]
              exact sm2 y o hy
            · rw [upd_same, List.map_append]
              rfl
            · rw [List.length_append, List.length_singleton]
              omega
            · intro y hy
              rcases List.mem_append.mp hy with r | r
              · exact pb y r
              · rw [List.mem_singleton.mp r]
                exact absI_nn z
          · exact ⟨sm2, big, hB, by omega, pb⟩
      · obtain ⟨sm2, big, hB, lb, pb⟩ := p
        have hD2 := sm2 _ _ hD
        have nBD : B ≠ D := (ne_of_none hD nB).symm
        -- cells + [len(cells) + 3]
        refine ⟨.ref D, rfl, .ref D, rfl, D, _, rfl, .inl (SqL.of hD2), _, 3, rfl, rfl, (by show 1 ≤ sizeLine; decide), fun L nL => ?_⟩
        have sm3 : Same H2 (upd H2 L (.lst [.int (((ns.map absI).map V.int).length + 3)])) := same_new nL
        have nLB : B ≠ L := ne_of_none hB nL
        refine ⟨D, L, _, _, rfl, rfl, sm3 _ _ hD2, upd_same, ?_, fun C nC => ?_⟩
        · rw [List.length_map, List.length_map]
          exact Nat.le_of_lt (small1000 (by show ns.length + 1 ≤ 1000; omega))
        · generalize upd H2 L (.lst [.int (((ns.map absI).map V.int).length + 3)]) = H3 at sm3 nC
          have sm4 := same_new (o := .lst ((ns.map absI).map V.int ++ [.int (((ns.map absI).map V.int).length + 3)])) nC
          have hB3 := sm3 _ _ hB
          have nBC : B ≠ C := ne_of_none hB3 nC
          refine ⟨(by show 3 ≤ sizeLine; decide), fun d nd => ?_⟩
          have sm5 := same_new (o := .lst [.ref B, .ref C, .int 0]) nd
          refine q _ d B ⟨C, none⟩ (sm.trans (sm2.trans (sm3.trans (sm4.trans sm5)))) ⟨⟨big, (ns.map absI) ++ [(ns.length : Int) + 3], 0, upd_same, sm5 _ _ (sm4 _ _ hB3), ?_, ?_, pb, ?_, ?_, ?_, by decide, by decide⟩, nBC, fun y hy => nomatch hy⟩ rfl
          · rw [sm5 C _ upd_same, List.map_append, List.length_map, List.length_map]
            rfl
          · rw [List.length_map, List.length_map] at lb
            omega
          · rw [List.length_append, List.length_singleton]
            omega
          · rw [List.length_append, List.length_singleton, List.length_map]
            omega
          · intro z hz
            rcases List.mem_append.mp hz with r | r
            · obtain ⟨y, _, rfl⟩ := List.mem_map.mp r
              exact absI_nn y
            · rw [List.mem_singleton.mp r]
              omega
def spOne : Sp := fun vs H Q _ => ∃ (d a : Addr) (b : Sd) (p : Addr) (xs : List V) (c : Nat), vs = [.ref d, .ref p] ∧ Deck d a b H c ∧ H p = some (.lst xs) ∧ ¬ Own d a b p ∧ xs ≠ [] ∧ xs.length ≤ 1000 ∧ c < 2 ^ 30 ∧
  ∀ H' x, Deck d a b H' (c + 1) → Kp d a b H H' → x ∈ xs → Q x H'
theorem ok_one {f : Addr} {fd : FuncData} {k j : Nat} (F : Fun K "_law_one" "_law_one" sOne f fd) (m_len : mg "len" = none)
    (Cn : Callee P w K mg base j "_law_next" ["_law_deck_here", "_law_many"] spNext) (hj : j ≤ k) :
    FnOk P w K mg base CX0 (k + 1) f fd ["_law_deck_here", "_law_some"] spOne := by
  refine F.ok cOne (fun vs H Q E h => ?_) (fun cdv A outer s H vs Q E hr h => ?_)
  · obtain ⟨d, a, b, p, xs, c, rfl, _⟩ := h
    rfl
  · obtain ⟨d, a, b, p, xs, c, rfl, D, hp, np, x0, xl, hc, q⟩ := h
    have lp : 0 < xs.length := List.length_pos_iff.mpr x0
    have hr := hr.mono hj
    refine ⟨_, (pss_one (ps_ret (pe_ix ix_list (pv 1) (pe_u Cn hr (by rfl) (pa_cons (pv 0) (pa_cons (pe_callB call_len_seq (by rfl) m_len PySem.boot_len (pa_cons (pv 1) pa_nil)) pa_nil))) (fun _ _ => rfl)))), ?_⟩
    refine ⟨.ref p, rfl, .ref d, rfl, .ref p, rfl, p, xs, rfl, .inl (SqL.of hp), d, a, b, _, c, rfl, D, ?_, ?_, hc, fun H' r D' kp r0 r1 => ?_⟩
    · show (0 : Int) < (xs.length : Int)
      omega
    · show (xs.length : Int) < 2 ^ 100
      exact Int.lt_of_le_of_lt (show (xs.length : Int) ≤ 1000 by omega) (by decide)
    · obtain ⟨i, ei⟩ : ∃ i : Nat, r = (i : Int) := ⟨_, (Int.toNat_of_nonneg r0).symm⟩
      have hi : i < xs.length := by omega
      exact ⟨p, xs, r, xs[i], rfl, rfl, SqL.of (kp _ _ hp np), by rw [ei]; exact atI_nat (List.getElem?_eq_getElem hi), q H' _ D' kp (List.getElem_mem hi)⟩
end

end Fr

set_option Elab.async false
set_option linter.all false
set_option maxRecDepth 100000
namespace Fr
open PySem PySem.Spec PyProof.Rows L2

theorem iteB {c : Bool} {A B : Prop} (h1 : c = true → A) (h2 : c = false → B) : if c = true then A else B := by
  cases c with
  | true => exact iteT (h1 rfl)
  | false => exact iteF (h2 rfl)
theorem iteNB {c : Bool} {A B : Prop} (h1 : c = false → A) (h2 : c = true → B) : if (!c) = true then A else B := by
  cases c with
  | true => exact iteF (h2 rfl)
  | false => exact iteT (h1 rfl)
/-- a house at h, its sizes at z -/
structure Hs (H : Hp) (h z : Addr) (sizes : List Int) (kinds : Int) : Prop where
  h : H h = some (.tup [.ref z, .int kinds])
  z : H z = some (.tup (sizes.map V.int))
theorem Hs.same {H H' : Hp} {h z : Addr} {sizes : List Int} {kinds : Int} (x : Hs H h z sizes kinds) (s : Same H H') : Hs H' h z sizes kinds := ⟨s _ _ x.h, s _ _ x.z⟩
theorem Hs.keep {d a : Addr} {b : Sd} {H H' : Hp} {h z : Addr} {sizes : List Int} {kinds : Int} (x : Hs H h z sizes kinds) (k : Kp d a b H H') (n1 : ¬ Own d a b h) (n2 : ¬ Own d a b z) : Hs H' h z sizes kinds := ⟨k _ _ x.h n1, k _ _ x.z n2⟩
def ieq : PyData → PyData → Bool
  | .int i, .int j => decide (i = j)
  | _, _ => false
def deedB (kn rm : Int) : PyData → Bool
  | .tuple [k, h, t] => inR 0 (kn - 1) k && (inR 0 (rm - 1) h && (inR 0 (rm - 1) t && !ieq h t))
  | _ => false
theorem of_inR {d a : Addr} {b : Sd} {H : Hp} {v : V} {x : PyData} {lo hi : Int} (h : Dt d a b H v x) (w : inR lo hi x = true) : ∃ i, v = .int i ∧ x = .int i ∧ lo ≤ i ∧ i ≤ hi := by
  cases h with
  | int i =>
    simp only [inR, Bool.and_eq_true, decide_eq_true_eq] at w
    exact ⟨i, rfl, rfl, w.1, w.2⟩
  | _ => cases w
def spWhole : Sp := fun vs H Q _ => ∃ (d a : Addr) (b : Sd) (v : V) (x : PyData), vs = [v] ∧ Dt d a b H v x ∧ Q (.bl (isW x)) H
def spFrom : Sp := fun vs H Q _ => ∃ (d a : Addr) (b : Sd) (v : V) (x : PyData) (lo hi : Int), vs = [v, .int lo, .int hi] ∧ Dt d a b H v x ∧ Q (.bl (inR lo hi x)) H
def spKind : Sp := fun vs H Q _ => ∃ (d a : Addr) (b : Sd) (h z : Addr) (sizes : List Int) (kinds : Int) (v : V) (x : PyData), vs = [.ref h, v] ∧ Hs H h z sizes kinds ∧ Dt d a b H v x ∧ Q (.bl (inR 0 (kinds - 1) x)) H
def spRoom : Sp := fun vs H Q _ => ∃ (d a : Addr) (b : Sd) (h z : Addr) (sizes : List Int) (kinds : Int) (v : V) (x : PyData), vs = [.ref h, v] ∧ Hs H h z sizes kinds ∧ Dt d a b H v x ∧ Q (.bl (inR 0 ((sizes.length : Int) - 1) x)) H
def spIsDeed : Sp := fun vs H Q _ => ∃ (d a : Addr) (b : Sd) (h z : Addr) (sizes : List Int) (kinds : Int) (v : V) (x : PyData), vs = [.ref h, v] ∧ Hs H h z sizes kinds ∧ Dt d a b H v x ∧
  ∀ H', Same H H' → Q (.bl (deedB kinds (sizes.length : Int) x)) H'
section
variable {P : Program} {w : World} {K : PySem.W.Frag} {mg : Str → Option Value} {base : Heap}
abbrev sHouse : Stmt := topS 9
abbrev nHouse : List Str := ["_law_deck_here", "_law_rooms", "_law_kinds", "_law_sizes", "_law_room"]
theorem cHouse : FnScope nHouse ["_law_deck_here", "_law_rooms", "_law_kinds"] (defScope sHouse) :=
  ⟨rfl, rfl, rfl, by decide +kernel, rfl, by decide +kernel, by decide +kernel⟩

def spHouse : Sp := fun vs H Q _ => ∃ (d a : Addr) (b : Sd) (rooms kinds : Int) (c : Nat), vs = [.ref d, .int rooms, .int kinds] ∧ Deck d a b H c ∧ 0 ≤ rooms ∧ rooms ≤ 9 ∧ c + 20 < 2 ^ 30 ∧
  ∀ H' h z sizes, Deck d a b H' (c + 20) → Kp d a b H H' → Hs H' h z sizes kinds → ¬ Own d a b h → ¬ Own d a b z → sizes.length = rooms.toNat → (∀ s ∈ sizes, 1 ≤ s ∧ s ≤ 10 ^ 12) → Q (.ref h) H'
theorem ok_house {f : Addr} {fd : FuncData} {k j : Nat} (F : Fun K "_law_house" "_law_house" sHouse f fd) (m_range : mg "range" = none) (m_tuple : mg "tuple" = none)
    (Cn : Callee P w K mg base j "_law_next" ["_law_deck_here", "_law_many"] spNext) (Co : Callee P w K mg base j "_law_one" ["_law_deck_here", "_law_some"] spOne) (hj : j ≤ k) :
    FnOk P w K mg base CX0 (k + 1) f fd ["_law_deck_here", "_law_rooms", "_law_kinds"] spHouse := by
  refine F.ok cHouse (fun vs H Q E h => ?_) (fun cdv A outer s H vs Q E hr h => ?_)
  · obtain ⟨d, a, b, rooms, kinds, c, rfl, _⟩ := h
    rfl
  · obtain ⟨d, a, b, rooms, kinds, c, rfl, D, r0, r9, hc, q⟩ := h
    have hr := hr.mono hj
    refine ⟨_, (pss_cons (ps_set (i := 3) cHouse.nd rfl (.inl rfl) (pe_lst pa_nil))
        (pss_cons (ps_for PassesOwn.never rfl (pi_range1 (by rfl) m_range (pa_cons (pv 1) pa_nil)) (pg_name (i := 4) cHouse.nd rfl (.inl rfl)) (pss_one (ps_expr (pe_bm PySem.F.plainAttrs_list PySem.F.slot_list_append PySem.F.type_list_append mt_append (pv 3) (pa_cons (pe_op op_add pe_int (pe_u Cn hr (by rfl) (pa_cons (pv 0) (pa_cons (pe_u Co hr (by rfl) (pa_cons (pv 0) (pa_cons (pe_lst (pa_cons pe_int (pa_cons pe_int (pa_cons pe_int (pa_cons (pe_op op_pow pe_int pe_int) pa_nil))))) pa_nil))) pa_nil)))) pa_nil)))))
        (pss_one (ps_ret (pe_tup (pa_cons (pe_callTy call_tuple_of (by rfl) m_tuple PyProof.Rows.boot_tuple (pa_cons (pv 3) pa_nil)) (pa_cons (pv 2) pa_nil))))))), ?_⟩
    refine ⟨Nat.zero_le _, fun p np => ?_⟩
    have op : ¬ Own d a b p := D.fresh np
    refine ⟨.int rooms, rfl, rooms, rfl, by omega, by omega, for_range (n := rooms.toNat) (fun i σ H1 => ∃ (y : Option V) (sizes : List Int), σ = [some (.ref d), some (.int rooms), some (.int kinds), some (.ref p), y] ∧
      Deck d a b H1 (c + 2 * i) ∧ Kp d a b H H1 ∧ H1 p = some (.lst (sizes.map V.int)) ∧ sizes.length = i ∧ ∀ s ∈ sizes, 1 ≤ s ∧ s ≤ 10 ^ 12)
      ⟨none, [], rfl, D.new np, Kp.new np, upd_same, rfl, by simp⟩ (fun i σ H1 hi hP => ?_) (fun σ H1 hP => ?_)⟩
    · obtain ⟨y, sizes, rfl, D1, kp1, hp, hl, hs⟩ := hP
      refine ⟨.ref p, rfl, .inl ⟨rfl, _, SqL.of hp⟩, .ref d, rfl, .ref d, rfl, 10, 12, rfl, rfl, ⟨by decide, by decide, by decide⟩, (by show 4 ≤ sizeLine; decide), fun l nl => ?_⟩
      refine ⟨d, a, b, l, _, c + 2 * i, rfl, D1.new nl, upd_same, D1.fresh nl, by simp, (by show 4 ≤ 1000; decide), by omega, fun H2 x D2 kp2 hx => ?_⟩
      have hm : ∃ m : Int, x = .int m ∧ 0 < m ∧ m ≤ 10 ^ 12 := by
        simp only [List.mem_cons, List.not_mem_nil, or_false] at hx
        rcases hx with e | e | e | e
        · exact ⟨1, e, by decide, by decide⟩
        · exact ⟨3, e, by decide, by decide⟩
        · exact ⟨9, e, by decide, by decide⟩
        · exact ⟨10 ^ 12, e, by decide, by decide⟩
      obtain ⟨m, rfl, m0, m1⟩ := hm
      refine ⟨d, a, b, m, _, rfl, D2, m0, Int.lt_of_le_of_lt m1 (by decide), by omega, fun H3 r D3 kp3 r0 r1 => ?_⟩
      have kp13 : Kp d a b H1 H3 := (Kp.new nl).trans (kp2.trans kp3)
      have hp3 := kp13 _ _ hp op
      refine ⟨1, r, rfl, rfl, p, _, _, rfl, rfl, hp3, ?_, some (.int (0 + i)), sizes ++ [1 + r], rfl, ?_, ?_, ?_, ?_, ?_⟩
      · rw [List.length_map]
        exact small1000 (by omega)
      · exact (D3.put (off op)).mono (by omega)
      · refine ⟨fun t o ht hn => ?_⟩
        rw [upd_ne (ne_of_none ht np)]
        exact kp13.run t o (kp1.run t o ht hn) hn
      · rw [upd_same, List.map_append]
        rfl
      · rw [List.length_append, List.length_singleton, hl]
      · intro t ht
        rcases List.mem_append.mp ht with e | e
        · exact hs t e
        · rw [List.mem_singleton.mp e]
          omega
    · obtain ⟨y, sizes, rfl, D1, kp1, hp, hl, hs⟩ := hP
      refine ⟨.ref p, rfl, p, _, rfl, .inl ⟨SqL.of hp, fun z nz => ⟨.int kinds, rfl, (by show 2 ≤ sizeLine; decide), fun h nh => ?_⟩⟩⟩
      have s1 := same_new (o := .tup (sizes.map V.int)) nz
      have s2 := same_new (o := .tup [.ref z, .int kinds]) nh
      have D2 := D1.new (o := .tup (sizes.map V.int)) nz
      exact q _ h z sizes ((D2.new nh).mono (by omega)) (kp1.trans ((Kp.of s1).trans (Kp.of s2))) ⟨upd_same, s2 _ _ upd_same⟩ (D2.fresh nh) (D1.fresh nz) hl hs
end

end Fr

set_option Elab.async false
set_option linter.all false
set_option maxRecDepth 100000
namespace Fr
open PySem PySem.Spec PyProof.Rows L2

section
variable {P : Program} {w : World} {K : PySem.W.Frag} {mg : Str → Option Value} {base : Heap}
abbrev sAmount : Stmt := topS 8
abbrev nAmount : List Str := ["_law_deck_here", "_law_high", "_law_few"]
theorem cAmount : FnScope nAmount ["_law_deck_here", "_law_high"] (defScope sAmount) :=
  ⟨rfl, rfl, rfl, by decide +kernel, rfl, by decide +kernel, by decide +kernel⟩

def spAmount : Sp := fun vs H Q _ => ∃ (d a : Addr) (b : Sd) (high : Int) (c : Nat), vs = [.ref d, .int high] ∧ Deck d a b H c ∧ 0 ≤ high ∧ high ≤ 10 ^ 13 ∧ c + 3 < 2 ^ 30 ∧
  ∀ H' r, Deck d a b H' (c + 3) → Kp d a b H H' → 0 ≤ r → r ≤ high → Q (.int r) H'
theorem ok_amount {f : Addr} {fd : FuncData} {k j : Nat} (F : Fun K "_law_amount" "_law_amount" sAmount f fd) (m_min : mg "min" = none)
    (Cn : Callee P w K mg base j "_law_next" ["_law_deck_here", "_law_many"] spNext) (hj : j ≤ k) :
    FnOk P w K mg base CX0 (k + 1) f fd ["_law_deck_here", "_law_high"] spAmount := by
  refine F.ok cAmount (fun vs H Q E h => ?_) (fun cdv A outer s H vs Q E hr h => ?_)
  · obtain ⟨d, a, b, high, c, rfl, _⟩ := h
    rfl
  · obtain ⟨d, a, b, high, c, rfl, D, h0, h1, hc, q⟩ := h
    have hr := hr.mono hj
    refine ⟨_, (pss_cons (ps_set (i := 2) cAmount.nd rfl (.inl rfl) (pe_u Cn hr (by rfl) (pa_cons (pv 0) (pa_cons (pe_op op_add (pe_callB (call_min2 rfl) (by rfl) m_min (by decide +kernel) (pa_cons (pv 1) (pa_cons pe_int pa_nil))) pe_int) pa_nil))))
        (pss_one (ps_ret (pe_ix ix_list (pe_lst (pa_cons (pv 2) (pa_cons (pe_op op_sub (pv 1) (pv 2)) (pa_cons (pe_u Cn hr (by rfl) (pa_cons (pv 0) (pa_cons (pe_op op_add (pv 1) pe_int) pa_nil))) pa_nil)))) (pe_u Cn hr (by rfl) (pa_cons (pv 0) (pa_cons pe_int pa_nil))) (fun _ _ => rfl))))), ?_⟩
    have hm : (if (3 : Int) < high then 3 else high) ≤ high ∧ 0 ≤ (if (3 : Int) < high then 3 else high) ∧ (if (3 : Int) < high then 3 else high) ≤ 3 := by
      split <;> omega
    refine ⟨.ref d, rfl, .int high, rfl, high, 3, rfl, _, 1, rfl, rfl, d, a, b, _, c, rfl, D, by omega, by omega, by omega, fun H1 r1 D1 kp1 r10 r11 => ?_⟩
    refine ⟨_, rfl, _, rfl, _, rfl, high, r1, rfl, rfl, .ref d, rfl, .int high, rfl, high, 1, rfl, rfl, d, a, b, _, _, rfl, D1, by omega, by omega, by omega, fun H2 r2 D2 kp2 r20 r21 => ?_⟩
    refine ⟨(by show 3 ≤ sizeLine; decide), fun L nL => ?_⟩
    have D3 := D2.new (o := .lst [.int r1, .int (high - r1), .int r2]) nL
    have oL := D2.fresh nL
    have kL : Kp d a b H2 (upd H2 L (.lst [.int r1, .int (high - r1), .int r2])) := Kp.new nL
    refine ⟨.ref d, rfl, d, a, b, 3, _, rfl, D3, by decide, by decide, by omega, fun H4 r4 D4 kp4 r40 r41 => ?_⟩
    have hL := kp4 _ _ (upd_same (H := H2) (a := L) (o := .lst [.int r1, .int (high - r1), .int r2])) oL
    have fin : ∀ r, 0 ≤ r → r ≤ high → Q (.int r) H4 := fun r a1 a2 => q H4 r D4 (kp1.trans (kp2.trans (kL.trans kp4))) a1 a2
    obtain ⟨m, rfl⟩ : ∃ m : Nat, r4 = (m : Int) := ⟨_, (Int.toNat_of_nonneg r40).symm⟩
    have hm3 : m < 3 := by omega
    match m, hm3 with
    | 0, _ => exact ⟨L, _, 0, _, rfl, rfl, SqL.of hL, atI_nat (j := 0) rfl, fin _ (by omega) (by omega)⟩
    | 1, _ => exact ⟨L, _, 1, _, rfl, rfl, SqL.of hL, atI_nat (j := 1) rfl, fin _ (by omega) (by omega)⟩
    | 2, _ => exact ⟨L, _, 2, _, rfl, rfl, SqL.of hL, atI_nat (j := 2) rfl, fin _ (by omega) (by omega)⟩
abbrev sRow : Stmt := topS 10
abbrev nRow : List Str := ["_law_deck_here", "_law_size", "_law_kinds", "_law_left", "_law_found", "_law_kind", "_law_first"]
theorem cRow : FnScope nRow ["_law_deck_here", "_law_size", "_law_kinds"] (defScope sRow) :=
  ⟨rfl, rfl, rfl, by decide +kernel, rfl, by decide +kernel, by decide +kernel⟩

def spRow : Sp := fun vs H Q _ => ∃ (d a : Addr) (b : Sd) (size kinds : Int) (c : Nat), vs = [.ref d, .int size, .int kinds] ∧ Deck d a b H c ∧ 0 ≤ size ∧ size ≤ 10 ^ 12 ∧ 1 ≤ kinds ∧ kinds ≤ 6 ∧ c + 40 < 2 ^ 30 ∧
  ∀ (H' : Hp) (p : Addr) (row : List Int), Deck d a b H' (c + 40) → Kp d a b H H' → H' p = some (.tup (row.map V.int)) → ¬ Own d a b p → row.length = kinds.toNat → (∀ x ∈ row, 0 ≤ x) → row.sum ≤ size → Q (.ref p) H'
theorem sum_nn {l : List Int} (h : ∀ x ∈ l, 0 ≤ x) : 0 ≤ l.sum := by
  induction l with
  | nil => exact Int.le_refl _
  | cons x l ih =>
    rw [List.sum_cons]
    have h1 := h x List.mem_cons_self
    have h2 := ih fun y hy => h y (List.mem_cons_of_mem _ hy)
    omega
theorem mem_le_sum {l : List Int} (h : ∀ x ∈ l, 0 ≤ x) {y : Int} (hy : y ∈ l) : y ≤ l.sum := by
  induction l with
  | nil => cases hy
  | cons x l ih =>
    rw [List.sum_cons]
    have h1 := h x List.mem_cons_self
    have hl : ∀ z ∈ l, 0 ≤ z := fun z hz => h z (List.mem_cons_of_mem _ hz)
    have h2 := sum_nn hl
    rcases List.mem_cons.mp hy with e | e
    · omega
    · have := ih hl e
      omega
theorem sum_rot (l : List Int) (n : Nat) : (l.drop n ++ l.take n).sum = l.sum := by
  rw [List.sum_append, Int.add_comm, ← List.sum_append, List.take_append_drop]
theorem ok_row {f : Addr} {fd : FuncData} {k j : Nat} (F : Fun K "_law_row" "_law_row" sRow f fd) (m_min : mg "min" = none) (m_range : mg "range" = none) (m_tuple : mg "tuple" = none)
    (Cn : Callee P w K mg base j "_law_next" ["_law_deck_here", "_law_many"] spNext) (Co : Callee P w K mg base j "_law_one" ["_law_deck_here", "_law_some"] spOne) (Ca : Callee P w K mg base j "_law_amount" ["_law_deck_here", "_law_high"] spAmount) (hj : j ≤ k) :
    FnOk P w K mg base CX0 (k + 1) f fd ["_law_deck_here", "_law_size", "_law_kinds"] spRow := by
  refine F.ok cRow (fun vs H Q E h => ?_) (fun cdv A outer s H vs Q E hr h => ?_)
  · obtain ⟨d, a, b, size, kinds, c, rfl, _⟩ := h
    rfl
  · obtain ⟨d, a, b, size, kinds, c, rfl, D, s0, s1, k0, k1, hc, q⟩ := h
    have hr := hr.mono hj
    refine ⟨_, (pss_cons (ps_set (i := 3) cRow.nd rfl (.inl rfl) (pe_u Co hr (by rfl) (pa_cons (pv 0) (pa_cons (pe_lst (pa_cons (pv 1) (pa_cons (pv 1) (pa_cons (pv 1) (pa_cons (pe_op op_sub (pv 1) (pe_u Cn hr (by rfl) (pa_cons (pv 0) (pa_cons (pe_op op_add (pe_callB (call_min2 rfl) (by rfl) m_min (by decide +kernel) (pa_cons (pv 1) (pa_cons pe_int pa_nil))) pe_int) pa_nil)))) (pa_cons (pe_u Ca hr (by rfl) (pa_cons (pv 0) (pa_cons (pv 1) pa_nil))) pa_nil)))))) pa_nil))))
        (pss_cons (ps_set (i := 4) cRow.nd rfl (.inl rfl) (pe_op op_rep (pe_lst (pa_cons pe_int pa_nil)) (pv 2)))
        (pss_cons (ps_for PassesOwn.never rfl (pi_range1 (by rfl) m_range (pa_cons (pv 2) pa_nil)) (pg_name (i := 5) cRow.nd rfl (.inl rfl)) (pss_cons (ps_asg (pe_ifExp (pt_cmpR op_lt (pv 5) (pe_op op_sub (pv 2) pe_int) (nomark _)) (pe_u Ca hr (by rfl) (pa_cons (pv 0) (pa_cons (pv 3) pa_nil))) (pv 3)) (pg_sub (pv 4) (pv 5) set_list))
        (pss_one (ps_set (i := 3) cRow.nd rfl (.inl rfl) (pe_op op_sub (pv 3) (pe_ix ix_list (pv 4) (pv 5) (fun _ _ => rfl)))))))
        (pss_cons (ps_set (i := 6) cRow.nd rfl (.inl rfl) (pe_u Cn hr (by rfl) (pa_cons (pv 0) (pa_cons (pv 2) pa_nil))))
        (pss_one (ps_ret (pe_callTy call_tuple_of (by rfl) m_tuple PyProof.Rows.boot_tuple (pa_cons (pe_op op_cat (pe_slice sl_list (pv 4) (po_some (pv 6)) po_none) (pe_slice sl_list (pv 4) po_none (po_some (pv 6)))) pa_nil)))))))), ?_⟩
    have hm : (if (2 : Int) < size then 2 else size) ≤ size ∧ 0 ≤ (if (2 : Int) < size then 2 else size) ∧ (if (2 : Int) < size then 2 else size) ≤ 2 := by
      split <;> omega
    refine ⟨.ref d, rfl, _, rfl, _, rfl, _, rfl, _, rfl, .ref d, rfl, .int size, rfl, size, 2, rfl, _, 1, rfl, rfl, d, a, b, _, c, rfl, D, by omega, by omega, by omega, fun H1 r1 D1 kp1 r10 r11 => ?_⟩
    refine ⟨size, r1, rfl, rfl, .ref d, rfl, _, rfl, d, a, b, size, _, rfl, D1, s0, by omega, by omega, fun H2 r2 D2 kp2 r20 r21 => ?_⟩
    refine ⟨(by show 5 ≤ sizeLine; decide), fun g ng => ?_⟩
    refine ⟨d, a, b, g, _, _, rfl, D2.new ng, upd_same, D2.fresh ng, by simp, (by show 5 ≤ 1000; decide), by omega, fun H3 v3 D3 kp3 hv3 => ?_⟩
    have k3 : Kp d a b H H3 := kp1.trans (kp2.trans ((Kp.new ng).trans kp3))
    obtain ⟨left0, rfl, lf0, lf1⟩ : ∃ m : Int, v3 = .int m ∧ 0 ≤ m ∧ m ≤ size := by
      have hv4 : v3 ∈ [V.int size, .int size, .int size, .int (size - r1), .int r2] := hv3
      simp only [List.mem_cons, List.not_mem_nil, or_false] at hv4
      rcases hv4 with e | e | e | e | e
      · exact ⟨_, e, by omega, by omega⟩
      · exact ⟨_, e, by omega, by omega⟩
      · exact ⟨_, e, by omega, by omega⟩
      · exact ⟨_, e, by omega, by omega⟩
      · exact ⟨_, e, by omega, by omega⟩
    -- [0] * kinds
    refine ⟨(by show 1 ≤ sizeLine; decide), fun z nz => ?_⟩
    have Dz := D3.new (o := .lst [.int 0]) nz
    refine ⟨.int kinds, rfl, z, kinds, _, rfl, rfl, upd_same, by omega, by omega, ?_, fun L nL => ?_⟩
    · show 1 * kinds.toNat ≤ sizeLine
      exact Nat.le_of_lt (small1000 (by omega))
    have e0 : (List.replicate kinds.toNat [V.int 0]).flatten = (List.replicate kinds.toNat (0 : Int)).map V.int := by
      rw [List.map_replicate]
      induction kinds.toNat with
      | zero => rfl
      | succ n ih => rw [List.replicate_succ, List.flatten_cons, ih, List.replicate_succ]; rfl
    rw [e0]
    have oL := Dz.fresh nL
    have DL := Dz.new (o := .lst ((List.replicate kinds.toNat (0 : Int)).map V.int)) nL
    have kL : Kp d a b H (upd (upd H3 z (.lst [.int 0])) L (.lst ((List.replicate kinds.toNat (0 : Int)).map V.int))) := k3.trans ((Kp.new nz).trans (Kp.new nL))
    have fL : upd (upd H3 z (.lst [.int 0])) L (.lst ((List.replicate kinds.toNat (0 : Int)).map V.int)) L = some (.lst ((List.replicate kinds.toNat (0 : Int)).map V.int)) := upd_same
    generalize upd (upd H3 z (.lst [.int 0])) L (.lst ((List.replicate kinds.toNat (0 : Int)).map V.int)) = H5 at DL kL fL
    have nLH : ∀ y o, H y = some o → ¬ Ow d a b y → y ≠ L := fun y o hy hn e => by
      have := k3.run y o hy hn
      have t2 := same_new (o := .lst [.int 0]) nz _ _ this
      rw [e, nL] at t2
      cases t2
    refine ⟨.int kinds, rfl, kinds, rfl, by omega, by omega, for_range (n := kinds.toNat) (fun i σ G => ∃ (y5 y6 : Option V) (left : Int) (l : List Int), σ = [some (.ref d), some (.int size), some (.int kinds), some (.int left), some (.ref L), y5, y6] ∧
      Deck d a b G (c + 5 + 3 * i) ∧ Kp d a b H G ∧ G L = some (.lst (l.map V.int)) ∧ l.length = kinds.toNat ∧ (∀ x ∈ l, 0 ≤ x) ∧ 0 ≤ left ∧ l.sum + left = left0 ∧ ∀ m, i ≤ m → l[m]? = some 0 ∨ l[m]? = none)
      ⟨none, none, left0, _, rfl, DL.mono (by omega), kL, fL, List.length_replicate, ?_, lf0, ?_, ?_⟩ (fun i σ G hi hP => ?_) (fun σ G hP => ?_)⟩
    · intro x hx
      rw [(List.mem_replicate.mp hx).2]
      exact Int.le_refl _
    · have : ∀ n : Nat, (List.replicate n (0 : Int)).sum = 0 := fun n => by
        induction n with
        | zero => rfl
        | succ n ih => rw [List.replicate_succ, List.sum_cons, ih]; rfl
      rw [this]
      omega
    · intro m _
      rw [List.getElem?_replicate]
      split
      · exact .inl rfl
      · exact .inr rfl
    · obtain ⟨y5, y6, left, l, rfl, DG, kG, fG, ll, nn, lf, ls, zs⟩ := hP
      have hil : i < l.length := by omega
      have li0 : l[i]? = some 0 := by
        rcases zs i (Nat.le_refl _) with e | e
        · exact e
        · rw [List.getElem?_eq_none_iff] at e
          omega
      -- behind the value
      have step : ∀ (G2 : Hp) (v : Int), Deck d a b G2 (c + 5 + 3 * i + 3) → Kp d a b G G2 → 0 ≤ v → v ≤ left →
          ixN (l.map V.int).length (0 + (i : Int)) = some i ∧ G2 L = some (.lst (l.map V.int)) ∧
          (∃ (l' : List Int), Deck d a b (upd G2 L (.lst ((l.map V.int).set i (.int v)))) (c + 5 + 3 * (i + 1)) ∧ Kp d a b H (upd G2 L (.lst ((l.map V.int).set i (.int v)))) ∧ (upd G2 L (.lst ((l.map V.int).set i (.int v)))) L = some (.lst (l'.map V.int)) ∧ l'.length = kinds.toNat ∧ (∀ x ∈ l', 0 ≤ x) ∧ 0 ≤ left - v ∧ l'.sum + (left - v) = left0 ∧ ∀ m, i + 1 ≤ m → l'[m]? = some 0 ∨ l'[m]? = none) := by
        intro G2 v D2 k2 v0 v1
        refine ⟨?_, k2 _ _ fG oL, l.set i v, (D2.put (off oL)).mono (by omega), ?_, ?_, ?_, ?_, ?_, ?_, ?_⟩
        · unfold ixN
          rw [if_pos (by omega), if_pos (by rw [List.length_map]; omega)]
          congr 1
          omega
        · refine ⟨fun y o hy hn => ?_⟩
          rw [upd_ne (nLH y o hy hn)]
          exact k2.run y o (kG.run y o hy hn) hn
        · rw [upd_same, List.map_set]
        · rw [List.length_set]; exact ll
        · intro x hx
          rcases List.mem_or_eq_of_mem_set hx with e | e
          · exact nn x e
          · omega
        · omega
        · rw [L2.sum_set li0]
          omega
        · intro m hm
          rw [List.getElem?_set_ne (by omega)]
          exact zs m (by omega)
      refine ⟨.int (0 + i), rfl, .int kinds, rfl, kinds, 1, rfl, rfl, 0 + i, _, rfl, rfl, _, rfl, ite2 (fun _ => ?_) (fun _ => ?_)⟩
      · refine ⟨.ref d, rfl, .int left, rfl, d, a, b, left, _, rfl, DG, lf, ?_, by omega, fun G2 v D2 k2 v0 v1 => ?_⟩
        · have := sum_nn nn
          omega
        obtain ⟨ix, gL, l2, fin⟩ := step G2 v D2 k2 v0 v1
        refine ⟨.ref L, rfl, .int (0 + i), rfl, L, _, _, i, rfl, rfl, gL, ix, ?_⟩
        refine ⟨.int left, rfl, .ref L, rfl, .int (0 + i), rfl, L, _, _, .int v, rfl, rfl, SqL.of upd_same, ?_, left, v, rfl, rfl, some (.int (0 + i)), y6, left - v, l2, rfl, fin⟩
        rw [show (0 + (i : Int)) = (i : Int) by omega]
        exact atI_nat (by rw [List.getElem?_set_self (by rw [List.length_map]; exact hil)])
      · obtain ⟨ix, gL, l2, fin⟩ := step G left (DG.mono (by omega)) Kp.refl lf (Int.le_refl _)
        refine ⟨.int left, rfl, .ref L, rfl, .int (0 + i), rfl, L, _, _, i, rfl, rfl, gL, ix, ?_⟩
        refine ⟨.int left, rfl, .ref L, rfl, .int (0 + i), rfl, L, _, _, .int left, rfl, rfl, SqL.of upd_same, ?_, left, left, rfl, rfl, some (.int (0 + i)), y6, left - left, l2, rfl, fin⟩
        rw [show (0 + (i : Int)) = (i : Int) by omega]
        exact atI_nat (by rw [List.getElem?_set_self (by rw [List.length_map]; exact hil)])
    · obtain ⟨y5, y6, left, l, rfl, DG, kG, fG, ll, nn, lf, ls, zs⟩ := hP
      refine ⟨.ref d, rfl, _, rfl, d, a, b, kinds, _, rfl, DG, by omega, by omega, by omega, fun G2 r D2 k2 r0 r1 => ?_⟩
      have fG2 := k2 _ _ fG oL
      obtain ⟨m, rfl⟩ : ∃ m : Nat, r = (m : Int) := ⟨_, (Int.toNat_of_nonneg r0).symm⟩
      refine ⟨.ref L, rfl, .int m, rfl, m, rfl, L, _, rfl, SqL.of fG2, fun p1 n1 => ?_⟩
      rw [cut_from]
      have f1 := same_new (o := .lst ((l.map V.int).drop m)) n1
      refine ⟨.ref L, rfl, .int m, rfl, m, rfl, L, _, rfl, SqL.of (f1 _ _ fG2), fun p2 n2 => ?_⟩
      rw [cut_to]
      have f2 := same_new (o := .lst ((l.map V.int).take m)) n2
      refine ⟨p1, p2, _, _, rfl, rfl, f2 _ _ upd_same, upd_same, ?_, fun p3 n3 => ?_⟩
      · rw [List.length_drop, List.length_take, List.length_map]
        exact Nat.le_of_lt (small1000 (by omega))
      have f3 := same_new (o := .lst ((l.map V.int).drop m ++ (l.map V.int).take m)) n3
      refine ⟨p3, _, rfl, .inl ⟨SqL.of upd_same, fun p4 n4 => ?_⟩⟩
      have D6 := ((((D2.new (o := .lst ((l.map V.int).drop m)) n1).new (o := .lst ((l.map V.int).take m)) n2).new (o := .lst ((l.map V.int).drop m ++ (l.map V.int).take m)) n3))
      refine q _ p4 (l.drop m ++ l.take m) ((D6.new n4).mono (by omega)) (kG.trans (k2.trans ((Kp.of f1).trans ((Kp.of f2).trans ((Kp.of f3).trans (Kp.new n4)))))) ?_ (D6.fresh n4) ?_ ?_ ?_
      · rw [upd_same, List.map_append, List.map_drop, List.map_take]
      · rw [List.length_append, List.length_drop, List.length_take]
        omega
      · intro x hx
        rcases List.mem_append.mp hx with e | e
        · exact nn x (List.mem_of_mem_drop e)
        · exact nn x (List.mem_of_mem_take e)
      · rw [sum_rot]
        omega

abbrev sStand : Stmt := topS 11
abbrev nStand : List Str := ["_law_deck_here", "_law_house_here", "_law_size"]
theorem cStand : FnScope nStand ["_law_deck_here", "_law_house_here"] (defScope sStand) :=
  ⟨rfl, rfl, rfl, by decide +kernel, rfl, by decide +kernel, by decide +kernel⟩

def spStand : Sp := fun vs H Q _ => ∃ (d a : Addr) (b : Sd) (h z : Addr) (sizes : List Int) (kinds : Int) (c : Nat), vs = [.ref d, .ref h] ∧ Deck d a b H c ∧ Hs H h z sizes kinds ∧ ¬ Own d a b h ∧ ¬ Own d a b z ∧
  sizes.length ≤ 9 ∧ (∀ s ∈ sizes, 1 ≤ s ∧ s ≤ 10 ^ 12) ∧ 1 ≤ kinds ∧ kinds ≤ 6 ∧ c + 400 < 2 ^ 30 ∧
  ∀ (H' : Hp) (p : Addr) (rows : List (List Int)), Deck d a b H' (c + 400) → Kp d a b H H' → Snd d a b H' p rows → OkS sizes kinds rows → Q (.ref p) H'
theorem ok_stand {f : Addr} {fd : FuncData} {k j : Nat} (F : Fun K "_law_stand" "_law_stand" sStand f fd) (m_tuple : mg "tuple" = none)
    (Cw : Callee P w K mg base j "_law_row" ["_law_deck_here", "_law_size", "_law_kinds"] spRow) (hj : j ≤ k) :
    FnOk P w K mg base CX0 (k + 1) f fd ["_law_deck_here", "_law_house_here"] spStand := by
  refine F.ok cStand (fun vs H Q E h => ?_) (fun cdv A outer s H vs Q E hr h => ?_)
  · obtain ⟨d, a, b, h, z, sizes, kinds, c, rfl, _⟩ := h
    rfl
  · obtain ⟨d, a, b, h, z, sizes, kinds, c, rfl, D, hs, oh, oz, ls, hz, k1, k6, hc, q⟩ := h
    have hr := hr.mono hj
    refine ⟨_, (pss_one (ps_ret (pe_callTy call_tuple_of (by rfl) m_tuple PyProof.Rows.boot_tuple (pa_cons (pe_lc (own := [("_law_size", 2)]) (g := gName 2) (tt := tYes)  rfl cStand.nd (pi_tup (pe_ix ix_tup (pv 1) pe_int (fun _ _ => rfl))) (blkOk_by (N := nStand) (sc := defScope sStand) (by decide +kernel)) (fun _ _ _ _ _ => (pg_name (i := 2) cStand.nd rfl (.inl rfl))) (fun _ _ _ _ _ => pts_nil) (fun _ _ _ _ _ => (pe_u Cw hr (by rfl) (pa_cons (pv 0) (pa_cons (pv 2) (pa_cons (pe_ix (r := rIxT K) ix_tup (pv 1) pe_int (fun _ _ => rfl)) pa_nil)))))) pa_nil)))), ?_⟩
    refine ⟨.ref h, rfl, h, _, 0, .ref z, rfl, rfl, SqT.of hs.h, at0, z, rfl, ⟨_, SqT.of hs.z⟩, fun L nL => ?_⟩
    have oL := D.fresh nL
    refine lc_tup (xs := sizes.map V.int) (fun i G => Deck d a b G (c + 40 * i) ∧ Kp d a b H G ∧ Hs G h z sizes kinds ∧ ∃ vs rows, G L = some (.lst vs) ∧ Rws d a b G vs rows ∧ rows.length = i ∧
        ∀ (m : Nat) (s : Int) (r : List Int), sizes[m]? = some s → rows[m]? = some r → r.length = kinds.toNat ∧ (∀ x ∈ r, 0 ≤ x) ∧ r.sum ≤ s)
      ⟨D.new nL, Kp.new nL, hs.same (same_new nL), [], [], upd_same, .nil, rfl, fun m s r _ e => nomatch e⟩ (fun i G _ p => SqT.of p.2.2.1.z) (fun i x G hx p => ?_) (fun G p => ?_)
    · obtain ⟨DG, kG, hG, vs, rows, fL, rw', lr, hrow⟩ := p
      rw [List.getElem?_map] at hx
      cases hi : sizes[i]? with
      | none => rw [hi] at hx; cases hx
      | some size =>
      rw [hi] at hx
      have ex : V.int size = x := Option.some.inj hx
      subst ex
      have hsz := hz size (List.mem_of_getElem? hi)
      have hil : i < sizes.length := (List.getElem?_eq_some_iff.mp hi).1
      refine ⟨rfl, .ref d, rfl, _, rfl, .ref h, rfl, h, _, 1, .int kinds, rfl, rfl, SqT.of hG.h, at1, d, a, b, size, kinds, _, rfl, DG, by omega, by omega, k1, k6, by omega, fun G2 p row D2 k2 fp op lp np sp' => ?_⟩
      have fL2 := k2 _ _ fL oL
      refine ⟨vs, fL2, small1000 (by rw [rw'.length]; omega), (D2.put (off oL)).mono (by omega), ?_, ?_, vs ++ [.ref p], rows ++ [row], upd_same, ?_, ?_, ?_⟩
      · refine ⟨fun y o hy hn => ?_⟩
        rw [upd_ne (ne_of_none hy nL)]
        exact k2.run y o (kG.run y o hy hn) hn
      · have hG2 := hG.keep k2 oh oz
        exact ⟨by rw [upd_ne (ne_of hG2.h fL2 (by intro z; cases z))]; exact hG2.h, by rw [upd_ne (ne_of hG2.z fL2 (by intro z; cases z))]; exact hG2.z⟩
      · exact ((rw'.keep k2).append (.cons ⟨p, rfl, fp, op⟩ .nil)).put fL2
      · rw [List.length_append, lr]; rfl
      · intro m s r hm hr'
        by_cases hlt : m < rows.length
        · rw [List.getElem?_append_left hlt] at hr'
          exact hrow m s r hm hr'
        · rw [List.getElem?_append_right (by omega)] at hr'
          have hm2 : m - rows.length = 0 := by
            have := (List.getElem?_eq_some_iff.mp hr').1
            rw [List.length_singleton] at this
            omega
          rw [hm2] at hr'
          have er : row = r := Option.some.inj hr'
          have em : m = i := by omega
          rw [em, hi] at hm
          have es := Option.some.inj hm
          subst er es
          exact ⟨lp, np, sp'⟩
    · obtain ⟨DG, kG, hG, vs, rows, fL, rw', lr, hrow⟩ := p
      rw [List.length_map] at DG lr
      refine ⟨L, vs, rfl, .inl ⟨SqL.of fL, fun p np => ?_⟩⟩
      exact q _ p rows ((DG.new np).mono (by omega)) (kG.trans (Kp.new np)) ⟨⟨vs, upd_same, rw'.keep (Kp.new np)⟩, DG.fresh np⟩ ⟨lr, hrow⟩

end

end Fr

set_option Elab.async false
set_option linter.all false
set_option maxRecDepth 100000
namespace Fr
open PySem PySem.Spec PyProof.Rows L2

section
variable {P : Program} {w : World} {K : PySem.W.Frag} {mg : Str → Option Value} {base : Heap}
abbrev sSame : Stmt := topS 7
abbrev nSame : List Str := ["_law_found", "_law_due", "_law_k"]
theorem cSame : FnScope nSame ["_law_found", "_law_due"] (defScope sSame) :=
  ⟨rfl, rfl, rfl, by decide +kernel, rfl, by decide +kernel, by decide +kernel⟩

mutual
def smd : PyData → Bool
  | .int _ => true
  | .tuple xs => decide (xs.length ≤ 500) && smdAll xs
  | .list xs => decide (xs.length ≤ 500) && smdAll xs
  | _ => false
def smdAll : List PyData → Bool
  | [] => true
  | x :: xs => smd x && smdAll xs
end
theorem smdAll_iff : ∀ xs : List PyData, smdAll xs = true ↔ ∀ x ∈ xs, smd x = true
  | [] => by simp [smdAll]
  | x :: xs => by simp [smdAll, smdAll_iff xs]
def isTL : PyData → Bool
  | .tuple _ => true
  | .list _ => true
  | _ => false
theorem kit_TL {K : PySem.W.Frag} (x : PyData) : PySem.W.kitAny K (.type (tyN x)) [.type "tuple", .type "list"] = some (isTL x) := by
  refine kitAny_cons (kit_ty (kit_T x)) (fun h1 => kitAny_cons (kit_ty (kit_L x)) (fun h2 => ?_) (fun h2 => ?_)) (fun h1 => ?_)
  · cases x <;> first | rfl | (cases h1; done) | (cases h2; done)
  · cases x <;> first | rfl | (cases h2; done)
  · cases x <;> first | rfl | (cases h1; done)
def spSame (n : Nat) : Sp := fun vs H Q _ => ∃ (d a : Addr) (b : Sd) (v u : V) (x : PyData), vs = [v, u] ∧ Dt d a b H v x ∧ Dt d a b H u x ∧ smd x = true ∧ x.depth ≤ n ∧ ∀ H', Same H H' → Q (.bl true) H'
def spSm : Nat → Sp
  | 0 => fun _ _ _ _ => False
  | n + 1 => spSame n
theorem no_same {f : Addr} {fd : FuncData} {k : Nat} {ps : List Str} : FnOk P w K mg base CX0 k f fd ps (spSm 0) :=
  ⟨fun _ _ _ _ h => h.elim, fun _ _ _ _ _ _ _ _ _ _ _ _ _ h => h.elim⟩
/-- the items of a sequence, read at a place -/
theorem item_of {d a : Addr} {b : Sd} {H : Hp} {v : V} {x : PyData} {xs : List PyData} (t : Dt d a b H v x) (e : x = .tuple xs ∨ x = .list xs) : ∃ (q : Addr) (vs : List V), v = .ref q ∧ DtAll d a b H vs xs ∧ (SqL K H q vs ∨ SqT K H q vs) ∧
    ∀ (G : Hp), Same H G → ∀ {i : Nat} {y : V} {Q : VK}, vs[i]? = some y → Q y G → rIx K v (.int (0 + (i : Int))) G Q := by
  have e0 : ∀ i : Nat, (0 + (i : Int)) = (i : Int) := fun i => by omega
  rcases e with e | e <;> subst e
  · cases t with
    | @tup q vs _ h1 h2 h3 => exact ⟨q, vs, rfl, h3, .inr (SqT.of h1), fun G s _ _ _ hy hq => .inr (.inl ⟨q, vs, _, _, rfl, rfl, SqT.of (s _ _ h1), by rw [e0]; exact atI_nat hy, hq⟩)⟩
  · cases t with
    | @lst q vs _ h1 h2 h3 => exact ⟨q, vs, rfl, h3, .inl (SqL.of h1), fun G s _ _ _ hy hq => .inl ⟨q, vs, _, _, rfl, rfl, SqL.of (s _ _ h1), by rw [e0]; exact atI_nat hy, hq⟩⟩
theorem ok_same {f : Addr} {fd : FuncData} {k j : Nat} (n : Nat) (F : Fun K "_law_same" "_law_same" sSame f fd) (m_len : mg "len" = none) (m_isinstance : mg "isinstance" = none) (m_tuple : mg "tuple" = none) (m_list : mg "list" = none) (m_int : mg "int" = none) (m_str : mg "str" = none) (m_bool : mg "bool" = none) (m_range : mg "range" = none)
    (Cs : Callee P w K mg base j "_law_same" ["_law_found", "_law_due"] (spSm n)) (hj : j ≤ k) :
    FnOk P w K mg base CX0 (k + 1) f fd ["_law_found", "_law_due"] (spSame n) := by
  refine F.ok cSame (fun vs H Q E h => ?_) (fun cdv A outer s H vs Q E hr h => ?_)
  · obtain ⟨d, a, b, v, u, x, rfl, _⟩ := h
    rfl
  · obtain ⟨d, a, b, v, u, x, rfl, tv, tu, hs, hd, q⟩ := h
    have hr := hr.mono hj
    refine ⟨_, (pss_cons (ps_if (pt_val (pe_callB call_isiT (by rfl) m_isinstance PyProof.Rows.boot_isinstance (pa_cons (pv 1) (pa_cons (pe_tup (pa_cons (pe_bltn (v := .ty "tuple") (by rfl) m_tuple PyProof.Rows.boot_tuple rfl) (pa_cons (pe_bltn (v := .ty "list") (by rfl) m_list PyProof.Rows.boot_list rfl) pa_nil))) pa_nil)))) (pss_cons (ps_if (pt_cmpR op_ne (pe_callB call_isi (by rfl) m_isinstance PyProof.Rows.boot_isinstance (pa_cons (pv 0) (pa_cons (pe_bltn (v := .ty "tuple") (by rfl) m_tuple PyProof.Rows.boot_tuple rfl) pa_nil))) (pe_callB call_isi (by rfl) m_isinstance PyProof.Rows.boot_isinstance (pa_cons (pv 1) (pa_cons (pe_bltn (v := .ty "tuple") (by rfl) m_tuple PyProof.Rows.boot_tuple rfl) pa_nil))) (nomark _)) (pss_one (ps_ret pe_bl)) pss_nil)
        (pss_cons (ps_if (pt_cmpR op_ne (pe_callB call_isi (by rfl) m_isinstance PyProof.Rows.boot_isinstance (pa_cons (pv 0) (pa_cons (pe_bltn (v := .ty "list") (by rfl) m_list PyProof.Rows.boot_list rfl) pa_nil))) (pe_callB call_isi (by rfl) m_isinstance PyProof.Rows.boot_isinstance (pa_cons (pv 1) (pa_cons (pe_bltn (v := .ty "list") (by rfl) m_list PyProof.Rows.boot_list rfl) pa_nil))) (nomark _)) (pss_one (ps_ret pe_bl)) pss_nil)
        (pss_cons (ps_if (pt_cmpR op_ne (pe_callB call_len_seq (by rfl) m_len PySem.boot_len (pa_cons (pv 0) pa_nil)) (pe_callB call_len_seq (by rfl) m_len PySem.boot_len (pa_cons (pv 1) pa_nil)) (nomark _)) (pss_one (ps_ret pe_bl)) pss_nil)
        (pss_one (ps_ret (pe_cmpR (op_eqE hr.units) (pe_lc (own := [("_law_k", 2)]) (g := gName 2)   rfl cSame.nd (pi_range1 (by rfl) m_range (pa_cons (pe_callB call_len_seq (by rfl) m_len PySem.boot_len (pa_cons (pv 1) pa_nil)) pa_nil)) (blkOk_by (N := nSame) (sc := defScope sSame) (by decide +kernel)) (fun _ _ _ _ _ => (pg_name (i := 2) cSame.nd rfl (.inl rfl))) (fun _ _ _ _ _ => (pts_one (pt_not (pt_val (pe_u Cs hr (by rfl) (pa_cons (pe_ix (r := rIx K) ix_seq (pv 0) (pv 2) (fun _ _ => rfl)) (pa_cons (pe_ix (r := rIx K) ix_seq (pv 1) (pv 2) (fun _ _ => rfl)) pa_nil))))))) (fun _ _ _ _ _ => (pv 2))) (pe_lst pa_nil) (nomark _))))))) pss_nil)
        (pss_cons (ps_if (pt_cmpR op_isN (pv 1) pe_non (nomark _)) (pss_one (ps_ret (pe_cmpR op_isN (pv 0) pe_non (nomark _)))) pss_nil)
        (pss_cons (ps_if (pt_val (pe_callB call_isi (by rfl) m_isinstance PyProof.Rows.boot_isinstance (pa_cons (pv 1) (pa_cons (pe_bltn (v := .ty "str") (by rfl) m_str PyProof.Rows.boot_str rfl) pa_nil)))) (pss_one (ps_ret (pe_and (pe_callB call_isi (by rfl) m_isinstance PyProof.Rows.boot_isinstance (pa_cons (pv 0) (pa_cons (pe_bltn (v := .ty "str") (by rfl) m_str PyProof.Rows.boot_str rfl) pa_nil))) (pe_one (pe_cmpR op_eq (pv 0) (pv 1) (nomark _)))))) pss_nil)
        (pss_one (ps_ret (pe_and (pe_callB call_isi (by rfl) m_isinstance PyProof.Rows.boot_isinstance (pa_cons (pv 0) (pa_cons (pe_bltn (v := .ty "int") (by rfl) m_int PyProof.Rows.boot_int rfl) pa_nil))) (pe_and (pe_cmpR op_eq (pe_callB call_isi (by rfl) m_isinstance PyProof.Rows.boot_isinstance (pa_cons (pv 0) (pa_cons (pe_bltn (v := .ty "bool") (by rfl) m_bool PyProof.Rows.boot_bool rfl) pa_nil))) (pe_callB call_isi (by rfl) m_isinstance PyProof.Rows.boot_isinstance (pa_cons (pv 1) (pa_cons (pe_bltn (v := .ty "bool") (by rfl) m_bool PyProof.Rows.boot_bool rfl) pa_nil))) (nomark _)) (pe_one (pe_cmpR op_eq (pv 0) (pv 1) (nomark _)))))))))), ?_⟩
    refine ⟨u, rfl, (by show 2 ≤ sizeLine; decide), fun c0 nc => ?_⟩
    have s0 := same_new (o := .tup [.ty "tuple", .ty "list"]) nc
    have tv0 := Dt.keep (Kp.of s0) _ _ tv
    have tu0 := Dt.keep (Kp.of s0) _ _ tu
    refine ⟨u, c0, _, _, _, isTL x, rfl, upd_same, .cons (.ty _) (.cons (.ty _) .nil), tu0.ty, kit_TL x, _, rfl, iteB (fun e => ?_) (fun e => ?_)⟩
    · generalize upd H c0 (.tup [.ty "tuple", .ty "list"]) = G at s0 tv0 tu0
      have seq : ∃ xs, (x = .tuple xs ∨ x = .list xs) := by
        cases x with
        | tuple xs => exact ⟨xs, .inl rfl⟩
        | list xs => exact ⟨xs, .inr rfl⟩
        | _ => cases e
      obtain ⟨xs, ex⟩ := seq
      have tv1 : TyX K G v (.type (tyN x)) := tv0.ty
      have tu1 : TyX K G u (.type (tyN x)) := tu0.ty
      refine ⟨v, rfl, v, .ty "tuple", _, _, isT x, rfl, .ty _, tv1, kit_ty (kit_T x), u, rfl, u, .ty "tuple", _, _, isT x, rfl, .ty _, tu1, kit_ty (kit_T x), rfl, _, rfl, iteNS rfl ?_⟩
      refine ⟨v, rfl, v, .ty "list", _, _, isL x, rfl, .ty _, tv1, kit_ty (kit_L x), u, rfl, u, .ty "list", _, _, isL x, rfl, .ty _, tu1, kit_ty (kit_L x), rfl, _, rfl, iteNS rfl ?_⟩
      have hsm : xs.length ≤ 500 ∧ smdAll xs = true := by
        rcases ex with e | e <;> subst e <;> simpa [smd] using hs
      have hdp : ∀ y ∈ xs, y.depth + 1 ≤ n := by
        have : PyData.depthAll xs + 1 ≤ n := by rcases ex with e | e <;> subst e <;> simpa [PyData.depth] using hd
        intro y hy
        have := (depthAll_le xs (PyData.depthAll xs)).mp (Nat.le_refl _) y hy
        omega
      obtain ⟨qv, vs, rfl, av, sv, itv⟩ := item_of (K := K) tv0 ex
      obtain ⟨qu, us, rfl, au, su, itu⟩ := item_of (K := K) tu0 ex
      have lv := av.length
      have lu := au.length
      refine ⟨.ref qv, rfl, qv, vs, rfl, sv, .ref qu, rfl, qu, us, rfl, su, rfl, _, rfl, ?_⟩
      rw [lv, lu]
      refine iteNS rfl ?_
      refine ⟨.ref qu, rfl, qu, us, rfl, su, _, rfl, by omega, by omega, fun D nD => lc_range (n := (us.length : Int).toNat) (fun i G1 => Same G G1 ∧ G1 D = some (.lst []))
        ⟨same_new nD, upd_same⟩ (fun i G1 hi hP => ?_) (fun G1 hP => ?_)⟩
      · obtain ⟨sm, hD⟩ := hP
        have hi2 : i < us.length := by omega
        have hi3 : i < vs.length := by omega
        obtain ⟨y, hy, ty⟩ := av.get (List.getElem?_eq_getElem hi3)
        obtain ⟨y2, hy2, ty2⟩ := au.get (List.getElem?_eq_getElem hi2)
        rw [hy] at hy2
        have ey := Option.some.inj hy2
        subst ey
        have my : y ∈ xs := List.mem_of_getElem? hy
        have dy := hdp y my
        cases n with
        | zero => omega
        | succ n =>
        refine ⟨rfl, .ref qv, rfl, .int (0 + i), rfl, itv G1 sm (List.getElem?_eq_getElem hi3) ⟨.ref qu, rfl, .int (0 + i), rfl, itu G1 sm (List.getElem?_eq_getElem hi2) ?_⟩⟩
        refine ⟨d, a, b, vs[i], us[i], y, rfl, Dt.keep (Kp.of sm) _ _ ty, Dt.keep (Kp.of sm) _ _ ty2, (smdAll_iff xs).mp hsm.2 y my, by omega, fun G2 s2 => ⟨true, rfl, iteF ?_⟩⟩
        exact ⟨sm.trans s2, s2 _ _ hD⟩
      · obtain ⟨sm, hD⟩ := hP
        refine ⟨Nat.zero_le _, fun e0 n0 => ?_⟩
        have s2 := same_new (o := .lst []) n0
        exact ⟨D, e0, [], rfl, rfl, SqL.of (s2 _ _ hD), SqL.of upd_same, q _ (s0.trans (sm.trans s2))⟩
    · obtain ⟨i, rfl⟩ : ∃ i, x = .int i := by
        cases x with
        | int i => exact ⟨i, rfl⟩
        | tuple _ => cases e
        | list _ => cases e
        | _ => simp [smd] at hs
      cases tv
      cases tu
      generalize upd H c0 (.tup [.ty "tuple", .ty "list"]) = G at s0 tv0 tu0
      have q := q _ s0
      refine ⟨.int i, rfl, rfl, _, rfl, iteF ?_⟩
      refine ⟨.int i, rfl, .int i, .ty "str", _, _, false, rfl, .ty _, tu0.ty, kit_ty (kit_S (.int i)), _, rfl, iteF ?_⟩
      refine ⟨.int i, rfl, .int i, .ty "int", _, _, true, rfl, .ty _, tv0.ty, kit_ty (kit_I (.int i)), _, rfl, iteT ?_⟩
      refine ⟨.int i, rfl, .int i, .ty "bool", _, _, false, rfl, .ty _, tv0.ty, kit_ty (kit_B (.int i)), .int i, rfl, .int i, .ty "bool", _, _, false, rfl, .ty _, tu0.ty, kit_ty (kit_B (.int i)), rfl, true, rfl, iteT ?_⟩
      refine ⟨.int i, rfl, .int i, rfl, rfl, ?_⟩
      rw [decide_eq_true rfl]
      exact q

end

end Fr

set_option Elab.async false
set_option linter.all false
set_option maxRecDepth 100000
namespace Fr
open PySem PySem.Spec PyProof.Rows L2

section
variable {P : Program} {w : World} {K : PySem.W.Frag} {mg : Str → Option Value} {base : Heap}
abbrev sPlaces : Stmt := topS 1
abbrev nPlaces : List Str := ["house", "stand", "size", "row"]
theorem cPlaces : FnScope nPlaces ["house", "stand"] (defScope sPlaces) :=
  ⟨rfl, rfl, rfl, by decide +kernel, rfl, by decide +kernel, by decide +kernel⟩

def freeR (sizes : List Int) (rs : List (List Int)) : List Int := List.zipWith (fun s r => s - r.sum) sizes rs
def spPlaces : Sp := fun vs H Q _ => ∃ (d a : Addr) (b : Sd) (h z p : Addr) (sizes : List Int) (kinds : Int) (rs : List (List Int)), vs = [.ref h, .ref p] ∧ Hs H h z sizes kinds ∧ Snd d a b H p rs ∧ rs.length = sizes.length ∧ rs.length ≤ 100 ∧
  ∀ (H' : Hp) (l : Addr), Same H H' → H l = none → H' l = some (.tup ((freeR sizes rs).map V.int)) → Q (.ref l) H'
theorem ok_places {f : Addr} {fd : FuncData} {k : Nat} (F : Fun K "places" "places" sPlaces f fd) (m_sum : mg "sum" = none) (m_tuple : mg "tuple" = none) (m_zip : mg "zip" = none) :
    FnOk P w K mg base CX0 (k + 1) f fd ["house", "stand"] spPlaces := by
  refine F.ok cPlaces (fun vs H Q E h => ?_) (fun cdv A outer s H vs Q E hr h => ?_)
  · obtain ⟨d, a, b, h, z, p, sizes, kinds, rs, rfl, _⟩ := h
    rfl
  · obtain ⟨d, a, b, h, z, p, sizes, kinds, rs, rfl, hs, sn, l1, l2, q⟩ := h
    obtain ⟨vs, hp, rv⟩ := sn.ex
    have lv := rv.length
    refine ⟨_, (pss_one (ps_ret (pe_callTy call_tuple_of (by rfl) m_tuple PyProof.Rows.boot_tuple (pa_cons (pe_lc (own := [("size", 2), ("row", 3)]) (g := gTup K 2 (gCons (gName 2) (gCons (gName 3) gNil))) (tt := tYes)  rfl cPlaces.nd (RZ.pi_zipA (by rfl) m_zip (pa_cons (pe_ix ix_tup (pv 0) pe_int (fun _ _ => rfl)) (pa_cons (pv 1) pa_nil))) (blkOk_by (N := nPlaces) (sc := defScope sPlaces) (by decide +kernel)) (fun _ _ _ _ _ => (pg_tup rfl (pgs_cons (pg_name (i := 2) cPlaces.nd rfl (.inl rfl)) (pgs_cons (pg_name (i := 3) cPlaces.nd rfl (.inl rfl)) pgs_nil)))) (fun _ _ _ _ _ => pts_nil) (fun _ _ _ _ _ => (pe_op op_sub (pv 2) (pe_callB (r := rSumT K) (cr_sumT rfl) (by rfl) m_sum (by decide +kernel) (pa_cons (pv 3) pa_nil))))) pa_nil)))), ?_⟩
    refine ⟨.ref h, rfl, h, _, 0, .ref z, rfl, rfl, SqT.of hs.h, at0, .ref p, rfl, z, p, _, _, rfl, .inr ⟨SqT.of hs.z, SqT.of hp, fun L nL => ?_⟩⟩
    refine lc_zipT (xs := sizes.map V.int) (ys := vs) (by rw [List.length_map]; omega) (fun i G => Same H G ∧ G L = some (.lst (((freeR sizes rs).take i).map V.int)))
      ⟨same_new nL, upd_same⟩ (fun i G z1 => ⟨SqT.of (z1.1 _ _ hs.z), SqT.of (z1.1 _ _ hp)⟩) (fun i x y T G hx hy hP hT => ?_) (fun G hP => ?_)
    · obtain ⟨sm, fL⟩ := hP
      obtain ⟨r, hr1, q1, rfl, fq1, oq1⟩ := rv.get hy
      rw [List.getElem?_map] at hx
      cases hxi : sizes[i]? with
      | none => rw [hxi] at hx; cases hx
      | some x0 =>
      rw [hxi] at hx
      have ex : V.int x0 = x := Option.some.inj hx
      subst ex
      have hil : i < sizes.length := (List.getElem?_eq_some_iff.mp hxi).1
      have sT := same_new (o := .tup [.int x0, .ref q1]) hT
      refine ⟨T, [.int x0, .ref q1], rfl, SqT.of upd_same, rfl, .int x0, _, rfl, .ref q1, _, rfl, rfl, rfl, .int x0, rfl, .ref q1, rfl, q1, r, rfl, SqT.of (sT _ _ (sm _ _ fq1)), x0, _, rfl, rfl, _, sT _ _ fL, ?_, ?_, ?_⟩
      · rw [List.length_map, List.length_take]
        exact small1000 (by omega)
      · intro y o hy
        rw [upd_ne (ne_of_none hy nL)]
        exact sT _ _ (sm _ _ hy)
      · have e : (freeR sizes rs)[i]? = some (x0 - r.sum) := by
          unfold freeR
          rw [List.getElem?_zipWith, hr1, hxi]
        rw [upd_same, List.take_add_one, e, List.map_append]
        rfl
    · obtain ⟨sm, fL⟩ := hP
      have e : (freeR sizes rs).take (sizes.map V.int).length = freeR sizes rs := List.take_of_length_le (by unfold freeR; rw [List.length_zipWith, List.length_map]; omega)
      rw [e] at fL
      refine ⟨L, _, rfl, .inl ⟨SqL.of fL, fun n nn => ?_⟩⟩
      exact q _ n (sm.trans (same_new nn)) (sm.free nn) upd_same
abbrev sThings : Stmt := topS 2
abbrev nThings : List Str := ["stand", "column"]
theorem cThings : FnScope nThings ["stand"] (defScope sThings) :=
  ⟨rfl, rfl, rfl, by decide +kernel, rfl, by decide +kernel, by decide +kernel⟩

def colS (rs : List (List Int)) (k : Nat) : Int := (rs.map fun r => r.getD k 0).sum
structure Rct (n k : Nat) (rs : List (List Int)) : Prop where
  len : rs.length = n
  row : ∀ r ∈ rs, r.length = k
def thR (rs : List (List Int)) (k : Nat) : List Int := (List.range k).map (colS rs)
theorem Rws.refs {d a : Addr} {b : Sd} {H : Hp} : ∀ {vs : List V} {rs : List (List Int)}, Rws d a b H vs rs → ∃ ls : List Addr, vs = ls.map V.ref ∧ ∀ l ∈ ls, ∃ r ∈ rs, H l = some (.tup (r.map V.int))
  | _, _, .nil => ⟨[], rfl, fun _ h => by cases h⟩
  | _, _, .cons ⟨q, e, h, n⟩ r => by
    obtain ⟨ls, e2, h2⟩ := Rws.refs r
    refine ⟨q :: ls, by rw [e, e2]; rfl, fun l hl => ?_⟩
    rcases List.mem_cons.mp hl with z | z
    · rw [z]; exact ⟨_, List.mem_cons_self, h⟩
    · obtain ⟨r', hr', h'⟩ := h2 l z
      exact ⟨r', List.mem_cons_of_mem _ hr', h'⟩
theorem col_cs {d a : Addr} {b : Sd} {H : Hp} {K : PySem.W.Frag} {i : Nat} : ∀ {ls : List Addr} {rs : List (List Int)} {cs : List V}, Rws d a b H (ls.map V.ref) rs → (∀ r ∈ rs, i < r.length) → cs.length = ls.length →
    (∀ (j : Nat) (l : Addr) (xs : List V), ls[j]? = some l → SqT K H l xs → ∃ x, xs[i]? = some x ∧ cs[j]? = some x) → cs = (rs.map fun r => r.getD i 0).map V.int
  | [], _, [], .nil, _, _, _ => rfl
  | [], _, _ :: _, .nil, _, h, _ => by cases h
  | l :: ls, r :: rs, [], .cons _ _, _, h, _ => by cases h
  | l :: ls, r :: rs, c :: cs, .cons ⟨q, e, hq, n⟩ rw1, hr, hl, hc => by
    have ih := col_cs (ls := ls) (rs := rs) (cs := cs) rw1 (fun t ht => hr t (List.mem_cons_of_mem _ ht)) (by simpa using hl) fun j l xs h1 h2 => hc (j + 1) l xs h1 h2
    have e : l = q := by injection e
    subst e
    obtain ⟨x, h1, h2⟩ := hc 0 l _ rfl (SqT.of hq)
    have h2 : c = x := Option.some.inj h2
    have hlt := hr r List.mem_cons_self
    rw [List.getElem?_map, List.getElem?_eq_getElem hlt] at h1
    have h1 := Option.some.inj h1
    rw [ih, List.map_cons, List.map_cons, h2, ← h1, List.getD_eq_getElem?_getD, List.getElem?_eq_getElem hlt]
    rfl
def spThings : Sp := fun vs H Q _ => ∃ (d a : Addr) (b : Sd) (p : Addr) (n k : Nat) (rs : List (List Int)), vs = [.ref p] ∧ Snd d a b H p rs ∧ Rct n k rs ∧ 0 < n ∧ n ≤ 9 ∧ k ≤ 100 ∧
  ∀ (H' : Hp) (l : Addr), Same H H' → H l = none → H' l = some (.tup ((thR rs k).map V.int)) → Q (.ref l) H'
theorem ok_things {f : Addr} {fd : FuncData} {k : Nat} (F : Fun K "things" "things" sThings f fd) (m_sum : mg "sum" = none) (m_tuple : mg "tuple" = none) (m_zip : mg "zip" = none) :
    FnOk P w K mg base CX0 (k + 1) f fd ["stand"] spThings := by
  refine F.ok cThings (fun vs H Q E h => ?_) (fun cdv A outer s H vs Q E hr h => ?_)
  · obtain ⟨d, a, b, p, n, k, rs, rfl, _⟩ := h
    rfl
  · obtain ⟨d, a, b, p, n, k, rs, rfl, sn, rc, n0, n9, k100, q⟩ := h
    obtain ⟨vs, hp, rv⟩ := sn.ex
    have lv := rv.length
    obtain ⟨ls, rfl, hls⟩ := rv.refs
    have ln := rc.len
    rw [List.length_map] at lv
    refine ⟨_, (pss_one (ps_ret (pe_callTy call_tuple_of (by rfl) m_tuple PyProof.Rows.boot_tuple (pa_cons (pe_lc (own := [("column", 1)]) (g := gName 1) (tt := tYes)  rfl cThings.nd (pi_zipS (by rfl) m_zip (pv 0)) (blkOk_by (N := nThings) (sc := defScope sThings) (by decide +kernel)) (fun _ _ _ _ _ => (pg_name (i := 1) cThings.nd rfl (.inl rfl))) (fun _ _ _ _ _ => pts_nil) (fun _ _ _ _ _ => (pe_callB (r := rSumT K) (cr_sumT rfl) (by rfl) m_sum (by decide +kernel) (pa_cons (pv 1) pa_nil)))) pa_nil)))), ?_⟩
    refine ⟨.ref p, rfl, p, ls, rfl, SqT.of hp, (fun e => by subst e; simp at lv; omega), by omega, fun l hl => ?_, fun L nL => ?_⟩
    · obtain ⟨r, _, hr1⟩ := hls l hl
      exact ⟨_, SqT.of hr1⟩
    refine lc_zipS (ls := ls) (m := k) (fun e => by subst e; simp at lv; omega) (fun i G => Same H G ∧ G L = some (.lst (((thR rs k).take i).map V.int)))
      ⟨same_new nL, upd_same⟩ (fun i G z l hl => ?_) (fun i T cs G hi hP hT lc hcs => ?_) (fun G hP => ?_)
    · obtain ⟨r, hr0, hr1⟩ := hls l hl
      exact ⟨_, SqT.of (z.1 _ _ hr1), by rw [List.length_map]; exact rc.row r hr0⟩
    · obtain ⟨sm, fL⟩ := hP
      have ecs := col_cs (rv.keep (Kp.of sm)) (fun r hr0 => by rw [rc.row r hr0]; exact hi) lc hcs
      subst ecs
      have sT := same_new (o := .tup ((rs.map fun r => r.getD i 0).map V.int)) hT
      refine ⟨rfl, .ref T, rfl, T, _, rfl, SqT.of upd_same, _, sT _ _ fL, ?_, ?_, ?_⟩
      · rw [List.length_map, List.length_take]
        exact small1000 (by omega)
      · intro y o hy
        rw [upd_ne (ne_of_none hy nL)]
        exact sT _ _ (sm _ _ hy)
      · have e : (thR rs k)[i]? = some (colS rs i) := by
          unfold thR
          rw [List.getElem?_map, List.getElem?_range hi]
          rfl
        rw [upd_same, List.take_add_one, e, List.map_append]
        rfl
    · obtain ⟨sm, fL⟩ := hP
      have e : (thR rs k).take k = thR rs k := List.take_of_length_le (by unfold thR; rw [List.length_map, List.length_range]; omega)
      rw [e] at fL
      refine ⟨L, _, rfl, .inl ⟨SqL.of fL, fun n nn => ?_⟩⟩
      exact q _ n (sm.trans (same_new nn)) (sm.free nn) upd_same

end

end Fr

set_option Elab.async false
set_option linter.all false
set_option maxRecDepth 100000
namespace Fr
open PySem PySem.Spec PyProof.Rows L2

def totS (rs : List (List Int)) : Int := (rs.map List.sum).sum
theorem row_cols : ∀ (r : List Int), r.sum = ((List.range r.length).map fun k => r.getD k 0).sum
  | [] => rfl
  | x :: r => by
    have ih := row_cols r
    rw [List.length_cons, List.range_succ_eq_map, List.map_cons, List.sum_cons, List.sum_cons, List.map_map, ih]
    rfl
theorem sum_add : ∀ (l : List Nat) (f g : Nat → Int), (l.map fun k => f k + g k).sum = (l.map f).sum + (l.map g).sum
  | [], _, _ => rfl
  | x :: l, f, g => by
    have ih := sum_add l f g
    simp only [List.map_cons, List.sum_cons] at ih ⊢
    omega
theorem tot_cols : ∀ {rs : List (List Int)} {k : Nat}, (∀ r ∈ rs, r.length = k) → totS rs = ((List.range k).map fun j => colS rs j).sum
  | [], k, _ => by
    have : ∀ l : List Nat, (l.map fun _ => (0 : Int)).sum = 0 := fun l => by
      induction l with
      | nil => rfl
      | cons x l ih => rw [List.map_cons, List.sum_cons, ih]; rfl
    exact (this _).symm
  | r :: rs, k, h => by
    have ih := tot_cols (rs := rs) (k := k) fun x hx => h x (List.mem_cons_of_mem _ hx)
    have e := row_cols r
    rw [h r List.mem_cons_self] at e
    have : (fun j => colS (r :: rs) j) = fun j => r.getD j 0 + colS rs j := funext fun j => by simp only [colS, List.map_cons, List.sum_cons]
    rw [this, sum_add, ← ih, ← e]
    simp only [totS, List.map_cons, List.sum_cons]
theorem OkS.rct {sizes : List Int} {kinds : Int} {rs : List (List Int)} (o : OkS sizes kinds rs) : Rct sizes.length kinds.toNat rs := by
  refine ⟨o.len, fun r hr => ?_⟩
  obtain ⟨i, hi⟩ := List.getElem?_of_mem hr
  have hi2 : i < sizes.length := by rw [← o.len]; exact (List.getElem?_eq_some_iff.mp hi).1
  exact (o.row i _ r (List.getElem?_eq_getElem hi2) hi).1
theorem free_sum : ∀ {sizes : List Int} {rs : List (List Int)}, rs.length = sizes.length → (freeR sizes rs).sum = sizes.sum - totS rs
  | [], [], _ => rfl
  | s :: sizes, r :: rs, h => by
    have ih := free_sum (sizes := sizes) (rs := rs) (by simpa using h)
    simp only [freeR, totS, List.zipWith_cons_cons, List.map_cons, List.sum_cons] at ih ⊢
    omega
theorem th_sum {rs : List (List Int)} {k : Nat} (h : ∀ r ∈ rs, r.length = k) : (thR rs k).sum = totS rs := (tot_cols h).symm
theorem col_app (rs : List (List Int)) (r : List Int) (j : Nat) : colS (rs ++ [r]) j = colS rs j + r.getD j 0 := by
  unfold colS
  rw [List.map_append, List.sum_append]
  simp
theorem th_len (rs : List (List Int)) (k : Nat) : (thR rs k).length = k := by
  unfold thR
  rw [List.length_map, List.length_range]
theorem th_step {rs : List (List Int)} {r : List Int} {k : Nat} (h : r.length = k) : List.zipWith (· + ·) (thR rs k) r = thR (rs ++ [r]) k := by
  refine List.ext_getElem? fun j => ?_
  rw [List.getElem?_zipWith]
  by_cases c : j < k
  · have e1 : (thR rs k)[j]? = some (colS rs j) := by unfold thR; rw [List.getElem?_map, List.getElem?_range c]; rfl
    have e2 : (thR (rs ++ [r]) k)[j]? = some (colS (rs ++ [r]) j) := by unfold thR; rw [List.getElem?_map, List.getElem?_range c]; rfl
    have e3 : r[j]? = some r[j] := List.getElem?_eq_getElem (by omega)
    rw [e1, e2, e3, col_app, List.getD_eq_getElem?_getD, e3]
    rfl
  · have e1 : (thR rs k)[j]? = none := List.getElem?_eq_none (by rw [th_len]; omega)
    have e2 : (thR (rs ++ [r]) k)[j]? = none := List.getElem?_eq_none (by rw [th_len]; omega)
    rw [e1, e2]
theorem th_nil (k : Nat) : thR [] k = List.replicate k 0 := by
  unfold thR
  have : colS ([] : List (List Int)) = fun _ => 0 := rfl
  rw [this, List.map_const', List.length_range]
def zr (n : Int) : List Int := (List.replicate n.toNat ([0] : List Int)).flatten
theorem zr_eq (n : Int) : zr n = List.replicate n.toNat 0 := by
  unfold zr
  induction n.toNat with
  | zero => rfl
  | succ m ih => rw [List.replicate_succ, List.flatten_cons, ih, List.replicate_succ]; rfl
theorem sum_rep0 : ∀ n : Nat, (List.replicate n (0 : Int)).sum = 0
  | 0 => rfl
  | n + 1 => by rw [List.replicate_succ, List.sum_cons, sum_rep0 n]; rfl
def fullR (kinds : Int) (sizes : List Int) : List (List Int) := sizes.map fun s => zr (kinds - 1) ++ [s]
theorem ok_full {sizes : List Int} {kinds : Int} (h1 : 1 ≤ kinds) (hs : ∀ s ∈ sizes, 1 ≤ s ∧ s ≤ 10 ^ 12) : OkS sizes kinds (fullR kinds sizes) := by
  refine ⟨by unfold fullR; rw [List.length_map], fun i z r hz hr => ?_⟩
  unfold fullR at hr
  rw [List.getElem?_map, hz] at hr
  have e := Option.some.inj hr
  have hz1 := hs z (List.mem_of_getElem? hz)
  rw [← e, zr_eq]
  refine ⟨by rw [List.length_append, List.length_replicate, List.length_singleton]; omega, fun x hx => ?_, by rw [List.sum_append, sum_rep0]; simp⟩
  rcases List.mem_append.mp hx with q | q
  · rw [(List.mem_replicate.mp q).2]; exact Int.le_refl _
  · rw [List.mem_singleton.mp q]; omega
theorem ok_zero {sizes : List Int} {kinds : Int} {n : Nat} (hn : n = sizes.length) (hs : ∀ s ∈ sizes, 1 ≤ s ∧ s ≤ 10 ^ 12) : OkS sizes kinds (List.replicate n (zr kinds)) := by
  refine ⟨by rw [List.length_replicate]; exact hn, fun i z r hz hr => ?_⟩
  have e := (List.mem_replicate.mp (List.mem_of_getElem? hr)).2
  have hz1 := hs z (List.mem_of_getElem? hz)
  rw [e, zr_eq]
  refine ⟨List.length_replicate, fun x hx => ?_, by rw [sum_rep0]; omega⟩
  rw [(List.mem_replicate.mp hx).2]; exact Int.le_refl _
theorem smd_two {l m : List Int} (h1 : l.length ≤ 100) (h2 : m.length ≤ 100) : smd (.list [.tuple (l.map .int), .tuple (m.map .int)]) = true := by
  have e : ∀ l : List Int, smdAll (l.map .int) = true := fun l => by
    rw [smdAll_iff]
    intro y hy
    obtain ⟨z, _, rfl⟩ := List.mem_map.mp hy
    rfl
  simp only [smd, smdAll, e, List.length_map, Bool.and_true, List.length_cons, List.length_nil]
  simp
  omega
theorem depth_two {l m : List Int} : (PyData.list [.tuple (l.map .int), .tuple (m.map .int)]).depth ≤ 2 := by
  have h1 := depth_tup l
  have h2 := depth_tup m
  simp only [PyData.depth, PyData.depthAll] at h1 h2 ⊢
  omega
end Fr

set_option Elab.async false
set_option linter.all false
set_option maxRecDepth 100000
namespace Fr
open PySem PySem.Spec PyProof.Rows L2

section
variable {P : Program} {w : World} {K : PySem.W.Frag} {mg : Str → Option Value} {base : Heap}
abbrev sLaw : Stmt := topS 12
abbrev nLaw : List Str := ["_law_script", "_law_deck_here", "_law_turn", "_law_house_here", "_law_sizes", "_law_kinds", "_law_full", "_law_size", "_law_stand_here", "_law_kept", "_law_free", "_law_many", "_law_row_here", "_law_a", "_law_b"]
theorem cLaw : FnScope nLaw ["_law_script"] (defScope sLaw) :=
  ⟨rfl, rfl, rfl, by decide +kernel, rfl, by decide +kernel, by decide +kernel⟩

def spLaw (K : PySem.W.Frag) : Sp := fun vs H Q _ => ∃ (e : Addr) (ns : List Int), vs = [.ref e] ∧ SqL K H e (ns.map V.int) ∧ ns.length ≤ 63 ∧ ∀ H', Q (.bl true) H'
theorem ok_law {f : Addr} {fd : FuncData} {k : Nat} (F : Fun K "law" "law" sLaw f fd) (m_range : mg "range" = none) (m_tuple : mg "tuple" = none) (m_repr : mg "repr" = none) (m_sum : mg "sum" = none) (m_len : mg "len" = none) (m_zip : mg "zip" = none)
    (Cdk : Callee P w K mg base k "_law_deck" ["_law_script"] (spDeck K)) (Cn : Callee P w K mg base k "_law_next" ["_law_deck_here", "_law_many"] spNext)
    (Ch : Callee P w K mg base k "_law_house" ["_law_deck_here", "_law_rooms", "_law_kinds"] spHouse) (Cst : Callee P w K mg base k "_law_stand" ["_law_deck_here", "_law_house_here"] spStand)
    (Cp : Callee P w K mg base k "places" ["house", "stand"] spPlaces) (Ct : Callee P w K mg base k "things" ["stand"] spThings)
    (Cs : Callee P w K mg base k "_law_same" ["_law_found", "_law_due"] (spSame 2)) :
    FnG P w K mg base (k + 1) f fd ["_law_script"] (spLaw K) := by
  refine okG F cLaw (fun vs H Q E h => ?_) (fun cdv A outer s H vs Q E gd hr h => ?_)
  · obtain ⟨e, ns, rfl, _⟩ := h
    rfl
  · obtain ⟨e, ns, rfl, hS, hl, q⟩ := h
    have hu := hr.units
    refine ⟨_, (pss_cons (ps_set (i := 1) cLaw.nd rfl (.inl rfl) (pe_u Cdk hr (by rfl) (pa_cons (pv 0) pa_nil)))
        (pss_cons (ps_for PassesOwn.never rfl (pi_range1 (by rfl) m_range (pa_cons pe_int pa_nil)) (pg_name (i := 2) cLaw.nd rfl (.inl rfl)) (pss_cons (ps_set (i := 3) cLaw.nd rfl (.inl rfl) (pe_u Ch hr (by rfl) (pa_cons (pv 1) (pa_cons (pe_op op_add pe_int (pe_u Cn hr (by rfl) (pa_cons (pv 1) (pa_cons pe_int pa_nil)))) (pa_cons (pe_op op_add pe_int (pe_u Cn hr (by rfl) (pa_cons (pv 1) (pa_cons pe_int pa_nil)))) pa_nil)))))
        (pss_cons (ps_asg (pv 3) (pg_tup rfl (pgs_cons (pg_name (i := 4) cLaw.nd rfl (.inl rfl)) (pgs_cons (pg_name (i := 5) cLaw.nd rfl (.inr rfl)) pgs_nil))))
        (pss_cons (ps_set (i := 6) cLaw.nd rfl (.inl rfl) (pe_callTy call_tuple_of (by rfl) m_tuple PyProof.Rows.boot_tuple (pa_cons (pe_lc (own := [("_law_size", 7)]) (g := gName 7) (tt := tYes)  rfl cLaw.nd (pi_tup (pv 4)) (blkOk_by (N := nLaw) (sc := defScope sLaw) (by decide +kernel)) (fun _ _ _ _ _ => (pg_name (i := 7) cLaw.nd rfl (.inl rfl))) (fun _ _ _ _ _ => pts_nil) (fun _ _ _ _ _ => (pe_op (r := rCatA K) op_catA (pe_op (r := rRepA K) op_repA (pe_tup (pa_cons pe_int pa_nil)) (pe_op op_sub (pv 5) pe_int)) (pe_tup (pa_cons (pv 7) pa_nil))))) pa_nil)))
        (pss_one (ps_for PassesOwn.never rfl (pi_list (pe_lst (pa_cons (pe_u Cst hr (by rfl) (pa_cons (pv 1) (pa_cons (pv 3) pa_nil))) (pa_cons (pe_op op_repA (pe_tup (pa_cons (pe_op op_repA (pe_tup (pa_cons pe_int pa_nil)) (pv 5)) pa_nil)) (pe_callB call_len_seq (by rfl) m_len PySem.boot_len (pa_cons (pv 4) pa_nil))) (pa_cons (pv 6) pa_nil))))) (pg_name (i := 8) cLaw.nd rfl (.inl rfl)) (pss_cons (ps_set (i := 9) cLaw.nd rfl (.inl rfl) (pe_callB (call_showS gd hu) (by rfl) m_repr PyProof.Rows.boot_repr (pa_cons (pe_lstS (pa_cons (pv 3) (pa_cons (pv 8) pa_nil))) pa_nil)))
        (pss_cons (ps_par (by rfl) cLaw.nd (i := 10) (j := 11) rfl rfl (by decide) rfl rfl (pa_cons (pe_lst pa_nil) (pa_cons (pe_op op_rep (pe_lst (pa_cons pe_int pa_nil)) (pv 5)) pa_nil)) (by rfl))
        (pss_cons (ps_for PassesOwn.never rfl (RZ.pi_zipA (by rfl) m_zip (pa_cons (pv 4) (pa_cons (pv 8) pa_nil))) (pg_tup rfl (pgs_cons (pg_name (i := 7) cLaw.nd rfl (.inl rfl)) (pgs_cons (pg_name (i := 12) cLaw.nd rfl (.inl rfl)) pgs_nil))) (pss_cons (ps_expr (pe_bm PySem.F.plainAttrs_list PySem.F.slot_list_append PySem.F.type_list_append mt_append (pv 10) (pa_cons (pe_op op_sub (pv 7) (pe_callB (cr_sumT rfl) (by rfl) m_sum (by decide +kernel) (pa_cons (pv 12) pa_nil))) pa_nil)))
        (pss_one (ps_setLc (i := 11) (own := [("_law_a", 13), ("_law_b", 14)]) (g := gTup K 2 (gCons (gName 13) (gCons (gName 14) gNil))) (tt := tYes)  rfl cLaw.nd rfl rfl (sw_true rfl rfl rfl (by decide +kernel)) (pi_zipLT (by rfl) m_zip (pa_cons (pv 11) (pa_cons (pv 12) pa_nil))) (blkOk_by (N := nLaw) (sc := defScope sLaw) (by decide +kernel)) (fun _ _ _ _ _ => (pg_tup rfl (pgs_cons (pg_name (i := 13) cLaw.nd rfl (.inl rfl)) (pgs_cons (pg_name (i := 14) cLaw.nd rfl (.inl rfl)) pgs_nil)))) (fun _ _ _ _ _ => pts_nil) (fun _ _ _ _ _ => (pe_op op_add (pv 13) (pv 14)))))))
        (pss_cons (ps_if (pt_not (pt_val (pe_u Cs hr (by rfl) (pa_cons (pe_lst (pa_cons (pe_u Cp hr (by rfl) (pa_cons (pv 3) (pa_cons (pv 8) pa_nil))) (pa_cons (pe_u Ct hr (by rfl) (pa_cons (pv 8) pa_nil)) pa_nil))) (pa_cons (pe_lst (pa_cons (pe_callTy call_tuple_of (by rfl) m_tuple PyProof.Rows.boot_tuple (pa_cons (pv 10) pa_nil)) (pa_cons (pe_callTy call_tuple_of (by rfl) m_tuple PyProof.Rows.boot_tuple (pa_cons (pv 11) pa_nil)) pa_nil))) pa_nil))))) (pss_one (ps_ret pe_bl)) pss_nil)
        (pss_one (ps_if (PW.pt (pw_or (pt_cmpR op_ne (pe_callB (call_showS gd hu) (by rfl) m_repr PyProof.Rows.boot_repr (pa_cons (pe_lstS (pa_cons (pv 3) (pa_cons (pv 8) pa_nil))) pa_nil)) (pv 9) (nomark _)) (pw_or1 (pt_cmpR op_ne (pe_op op_add (pe_callB (cr_sumT rfl) (by rfl) m_sum (by decide +kernel) (pa_cons (pe_u Cp hr (by rfl) (pa_cons (pv 3) (pa_cons (pv 8) pa_nil))) pa_nil)) (pe_callB (cr_sumT rfl) (by rfl) m_sum (by decide +kernel) (pa_cons (pe_u Ct hr (by rfl) (pa_cons (pv 8) pa_nil)) pa_nil))) (pe_callB (cr_sumT rfl) (by rfl) m_sum (by decide +kernel) (pa_cons (pv 4) pa_nil)) (nomark _))))) (pss_one (ps_ret pe_bl)) pss_nil))))))))))))
        (pss_one (ps_ret pe_bl)))), ?_⟩
    refine ⟨.ref e, rfl, e, ns, rfl, hS, hl, fun H0 d a b sm0 D0 hbl => ?_⟩
    refine ⟨6, rfl, by decide, by decide, for_range (n := 6) (fun i σ H1 => ∃ y2 y3 y4 y5 y6 y7 y8 y9 y10 y11 y12 y13 y14 : Option V, σ = [some (.ref e), some (.ref d), y2, y3, y4, y5, y6, y7, y8, y9, y10, y11, y12, y13, y14] ∧ Deck d a b H1 (700 * i))
      ⟨none, none, none, none, none, none, none, none, none, none, none, none, none, rfl, D0⟩ (fun i σ H1 hi hP => ?_) (fun σ H1 hP => ?_)⟩
    · obtain ⟨y2, y3, y4, y5, y6, y7, y8, y9, y10, y11, y12, y13, y14, rfl, D1⟩ := hP
      refine ⟨.ref d, rfl, .ref d, rfl, d, a, b, 8, _, rfl, D1, by decide, by decide, by omega, fun H2 r2 D2 kp2 r20 r21 => ?_⟩
      refine ⟨1, r2, rfl, rfl, .ref d, rfl, d, a, b, 6, _, rfl, D2, by decide, by decide, by omega, fun H3 r3 D3 kp3 r30 r31 => ?_⟩
      refine ⟨1, r3, rfl, rfl, d, a, b, 1 + r2, 1 + r3, _, rfl, D3, by omega, by omega, by omega, fun H4 h z sizes D4 kp4 hs oh oz ls hsz => ?_⟩
      refine ⟨.ref h, rfl, h, _, rfl, SqT.of hs.h, rfl, .ref z, _, rfl, .int (1 + r3), _, rfl, rfl, ?_⟩
      have D4 := D4.mono (c' := 700 * i + 30) (by omega)
      refine ⟨.ref z, rfl, z, rfl, ⟨_, SqT.of hs.z⟩, fun L nL => ?_⟩
      have oL := D4.fresh nL
      refine lc_tup (xs := sizes.map V.int) (fun j G => Deck d a b G (700 * i + 30) ∧ Same H4 G ∧ ∃ ws, G L = some (.lst ws) ∧ Rws d a b G ws ((fullR (1 + r3) sizes).take j))
        ⟨D4.new nL, same_new nL, [], upd_same, .nil⟩ (fun j G _ z1 => SqT.of (z1.2.1 _ _ hs.z)) (fun j x G hx hP => ?_) (fun G hP => ?_)
      · obtain ⟨DG, sG, ws, fL, rw1⟩ := hP
        rw [List.getElem?_map] at hx
        cases hxi : sizes[j]? with
        | none => rw [hxi] at hx; cases hx
        | some s0 =>
        rw [hxi] at hx
        have ex : V.int s0 = x := Option.some.inj hx
        subst ex
        have hjl : j < sizes.length := (List.getElem?_eq_some_iff.mp hxi).1
        refine ⟨rfl, (by show 1 ≤ sizeLine; decide), fun u1 nu1 => ⟨.int (1 + r3), rfl, 1 + r3, 1, rfl, rfl, rep_any (DG.new nu1) upd_same (DG.fresh nu1) (by simp) (by omega) (by omega) (by show 1 ≤ 1000; decide) fun Gr ur sr Dr fr or => ⟨.int s0, rfl, (by show 1 ≤ sizeLine; decide), fun u2 nu2 => ?_⟩⟩⟩
        have su1 := same_new (o := .tup [.int 0]) nu1
        have su2 := same_new (o := .tup [.int s0]) nu2
        rw [show [V.int 0] = ([0] : List Int).map V.int from rfl, rep_ints] at fr
        have lz : (zr (1 + r3 - 1)).length ≤ 10 := by rw [zr_eq, List.length_replicate]; omega
        refine cat_any (Dr.new nu2) (su2 _ _ fr) upd_same or (Dr.fresh nu2) (Nat.le_of_lt (small1000 (by rw [List.length_map]; show (zr (1 + r3 - 1)).length + 1 ≤ 1000; omega))) fun Gc uc sc Dc fc oc => ?_
        have sAll : Same G Gc := su1.trans (sr.trans (su2.trans sc))
        have fL2 := sAll _ _ fL
        have lw := rw1.length
        rw [List.length_take] at lw
        refine ⟨ws, fL2, small1000 (by omega), Dc.put (off oL), ?_, ws ++ [.ref uc], upd_same, ?_⟩
        · intro y o hy
          rw [upd_ne (ne_of_none hy nL)]
          exact sAll _ _ (sG _ _ hy)
        · have e2 : (fullR (1 + r3) sizes)[j]? = some (zr (1 + r3 - 1) ++ [s0]) := by
            unfold fullR
            rw [List.getElem?_map, hxi]
            rfl
          rw [List.take_add_one, e2]
          refine ((rw1.keep (Kp.of sAll)).append (.cons ⟨uc, rfl, ?_, oc⟩ .nil)).put fL2
          rw [fc, List.map_append]
          rfl
      obtain ⟨DG, sG, ws, fL, rw1⟩ := hP
      have eF : (fullR (1 + r3) sizes).take (sizes.map V.int).length = fullR (1 + r3) sizes := List.take_of_length_le (by unfold fullR; rw [List.length_map, List.length_map]; omega)
      rw [eF] at rw1
      refine ⟨L, ws, rfl, .inl ⟨SqL.of fL, fun pf nf => ?_⟩⟩
      have D5 := DG.new (o := .tup ws) nf
      have snF : Snd d a b (upd G pf (.tup ws)) pf (fullR (1 + r3) sizes) := ⟨⟨ws, upd_same, rw1.keep (Kp.new nf)⟩, DG.fresh nf⟩
      have hs5 := hs.same (sG.trans (same_new (o := .tup ws) nf))
      generalize upd G pf (.tup ws) = H5 at D5 snF hs5
      clear fL rw1 DG sG hs kp2 kp3 kp4 D1 D2 D3 D4 oL nL nf
      -- the three stands
      refine ⟨.ref d, rfl, .ref h, rfl, d, a, b, h, z, sizes, 1 + r3, _, rfl, D5, hs5, oh, oz, by omega, hsz, by omega, by omega, by omega, fun H6 p rows D6 kp6 sn ok => ?_⟩
      have hs6 := hs5.keep kp6 oh oz
      have snF6 := snF.keep kp6
      refine ⟨(by show 1 ≤ sizeLine; decide), fun u1 nu1 => ?_⟩
      have s1 := same_new (o := .tup [.int 0]) nu1
      refine ⟨.int (1 + r3), rfl, rep_any (D6.new nu1) upd_same (D6.fresh nu1) (by simp) (by omega) (by omega) (by show 1 ≤ 1000; decide) fun Hu u2 su Du fu2 ou2 => ?_⟩
      rw [show [V.int 0] = ([0] : List Int).map V.int from rfl, rep_ints] at fu2
      have s2 := s1.trans su
      refine ⟨(by show 1 ≤ sizeLine; decide), fun u3 nu3 => ?_⟩
      have s3 := same_new (o := .tup [.ref u2]) nu3
      have hz3 := s3 _ _ (s2 _ _ hs6.z)
      refine ⟨.ref z, rfl, z, _, rfl, .inr (SqT.of hz3), rep_any (Du.new nu3) upd_same (Du.fresh nu3) (by simp) (by omega) (by rw [List.length_map]; omega) (by show 1 ≤ 1000; decide) fun Hw u4 sw Dw fu4 ou4 => ?_⟩
      have s4 : Same H6 Hw := s2.trans (s3.trans sw)
      have sn0 : Snd d a b Hw u4 (List.replicate (((sizes.map V.int).length : Int)).toNat (zr (1 + r3))) := ⟨⟨_, fu4, Rws.same (sw _ _ (s3 _ _ fu2)) ou2 _⟩, ou4⟩
      have ok0 : OkS sizes (1 + r3) (List.replicate (((sizes.map V.int).length : Int)).toNat (zr (1 + r3))) := ok_zero (by rw [List.length_map]; omega) hsz
      refine ⟨.ref pf, rfl, (by show 3 ≤ sizeLine; decide), fun L1 nL1 => ?_⟩
      have s5 := same_new (o := .lst [.ref p, .ref u4, .ref pf]) nL1
      have fL1 : upd Hw L1 (.lst [.ref p, .ref u4, .ref pf]) L1 = some (.lst [.ref p, .ref u4, .ref pf]) := upd_same
      have D7 := Dw.same s5
      have hs7 := hs6.same (s4.trans s5)
      have sA := sn.keep (Kp.of (s4.trans s5))
      have sB := sn0.keep (Kp.of s5)
      have sC := snF6.keep (Kp.of (s4.trans s5))
      generalize upd Hw L1 (.lst [.ref p, .ref u4, .ref pf]) = H7 at fL1 D7 hs7 sA sB sC
      have items : ∀ v ∈ [V.ref p, .ref u4, .ref pf], ∃ (q : Addr) (rs : List (List Int)), v = .ref q ∧ Snd d a b H7 q rs ∧ OkS sizes (1 + r3) rs := by
        intro v hv
        simp only [List.mem_cons, List.not_mem_nil, or_false] at hv
        rcases hv with rfl | rfl | rfl
        · exact ⟨p, _, rfl, sA, ok⟩
        · exact ⟨u4, _, rfl, sB, ok0⟩
        · exact ⟨pf, _, rfl, sC, ok_full (by omega) hsz⟩
      have zs : ∀ i ∈ sizes, i.natAbs < 10 ^ 13 := fun i hi => by have := hsz i hi; omega
      have gh := bs_gd _ 2 (bs_house (l := sizes) (k := 1 + r3) (by omega) zs (by omega)) depth_house
      have shw : ∀ {σ : L2.St} {G : Hp} {u q1 : Addr} {rs : List (List Int)} {Q : VK}, Hs G h z sizes (1 + r3) → Snd d a b G q1 rs → Sml rs → G u = none → u ≠ sysModules →
          (∀ G2, Same G G2 → Q (.str (PyData.list [.tuple [.tuple (sizes.map PyData.int), .int (1 + r3)], .tuple (rs.map fun r => .tuple (r.map .int))]).shown) G2) → tNil σ (upd G u (.lst [.ref h, .ref q1])) (fun xs H2 => (fun vs H1 => rShowS vs H1 Q) (.ref u :: xs) H2) := by
        intro σ G u q1 rs Q h1 s1 m1 nu nsm qq
        show rShowS [.ref u] (upd G u (.lst [.ref h, .ref q1])) Q
        have s3 := same_new (o := .lst [.ref h, .ref q1]) nu
        have h2 := h1.same s3
        have g1 := bs_gd _ 2 m1.bs Sml.depth
        exact show2 upd_same nsm (Dt.house h2.h h2.z oh oz) (s1.keep (Kp.of s3)).dt (gh.1.mono (by decide) (by decide)) (g1.1.mono (by decide) (by decide)) gh.2 (qq _ s3)
      have D8 := D7.mono (c' := 700 * i + 700) (by omega)
      refine ⟨L1, rfl, ⟨_, SqL.of fL1⟩, for_list (xs := [.ref p, .ref u4, .ref pf]) (fun i2 σ G => Same H7 G ∧ ∃ y7 y8 y9 y10 y11 y12 y13 y14 : Option V, σ = [some (.ref e), some (.ref d), some (.int (0 + i)), some (.ref h), some (.ref z), some (.int (1 + r3)), some (.ref pf), y7, y8, y9, y10, y11, y12, y13, y14])
        ⟨Same.refl _, _, _, _, _, _, _, _, _, rfl⟩ (fun i2 σ G _ z1 => SqL.of (z1.1 _ _ fL1)) (fun i2 v σ G hv z1 => ?_) (fun σ G z1 => ?_)⟩
      · obtain ⟨sG, y7, y8, y9, y10, y11, y12, y13, y14, rfl⟩ := z1
        obtain ⟨qs, rs, rfl, snq, okq⟩ := items v (List.mem_of_getElem? hv)
        have snq := snq.keep (Kp.of sG)
        have hsG := hs7.same sG
        have DG := D8.same sG
        have rc := okq.rct
        have sml := okq.sml (by omega) (by omega) hsz
        have lrs := okq.len
        refine ⟨.ref h, rfl, .ref qs, rfl, (by show 2 ≤ sizeLine; decide), fun u nu mu => shw hsG snq sml nu mu fun G1 t1 => ?_⟩
        have hsA := hsG.same t1
        have snA := snq.keep (Kp.of t1)
        have DA := DG.same t1
        refine ⟨(by show 0 ≤ sizeLine; decide), fun F nF => ⟨(by show 1 ≤ sizeLine; decide), fun u nu => ?_⟩⟩
        have v1 := same_new (o := .lst []) nF
        have v2 := same_new (o := .lst [.int 0]) nu
        refine ⟨.int (1 + r3), rfl, u, 1 + r3, _, rfl, rfl, upd_same, by omega, by omega, ?_, fun M nM => ⟨.ref F, .ref M, rfl, ?_⟩⟩
        · show 1 * (1 + r3).toNat ≤ sizeLine
          exact Nat.le_of_lt (small1000 (by omega))
        have v3 := same_new (o := .lst (List.replicate (1 + r3).toNat [V.int 0]).flatten) nM
        have fF := v3 _ _ (v2 _ _ (upd_same (H := G1) (a := F) (o := .lst [])))
        have neFM : F ≠ M := ne_of_none (v2 _ _ (upd_same (H := G1) (a := F) (o := .lst []))) nM
        have fM : upd (upd (upd G1 F (.lst [])) u (.lst [.int 0])) M (.lst (List.replicate (1 + r3).toNat [V.int 0]).flatten) M = some (.lst ((thR [] (1 + r3).toNat).map V.int)) := by
          rw [upd_same, th_nil, ← zr_eq]
          show some (HO.lst (List.replicate (1 + r3).toNat (([0] : List Int).map V.int)).flatten) = _
          rw [rep_ints]
          rfl
        have v4 : Same G1 _ := v1.trans (v2.trans v3)
        generalize upd (upd (upd G1 F (.lst [])) u (.lst [.int 0])) M (.lst (List.replicate (1 + r3).toNat [V.int 0]).flatten) = G2 at fF fM v4
        obtain ⟨vs, hq, rv⟩ := snA.ex
        have lv := rv.length
        refine ⟨.ref z, rfl, .ref qs, rfl, z, qs, _, _, rfl, .inr ⟨SqT.of (v4 _ _ hsA.z), SqT.of (v4 _ _ hq), RZ.for_zipT (xs := sizes.map V.int) (ys := vs) (by rw [List.length_map]; omega)
          (fun j σ G3 => ∃ (y7 y12 y13 y14 : Option V) (Mj : Addr), σ = [some (.ref e), some (.ref d), some (.int (0 + i)), some (.ref h), some (.ref z), some (.int (1 + r3)), some (.ref pf), y7, some (.ref qs), some (.str (PyData.list [.tuple [.tuple (sizes.map PyData.int), .int (1 + r3)], .tuple (rs.map fun r => .tuple (r.map .int))]).shown), some (.ref F), some (.ref Mj), y12, y13, y14] ∧
            Same G1 G3 ∧ F ≠ Mj ∧ G3 F = some (.lst (((freeR sizes rs).take j).map V.int)) ∧ G3 Mj = some (.lst ((thR (rs.take j) (1 + r3).toNat).map V.int)))
          ⟨y7, y12, y13, y14, M, rfl, v4, neFM, fF, fM⟩ (fun j σ G3 z1 => ?_) (fun j x y T σ G3 hx hy z1 hT => ?_) (fun σ G3 z1 => ?_)⟩⟩
        · obtain ⟨_, _, _, _, _, rfl, w1, _⟩ := z1
          exact ⟨SqT.of (w1 _ _ hsA.z), SqT.of (w1 _ _ hq)⟩
        · obtain ⟨y7, y12, y13, y14, Mj, rfl, w1, neF, f1, f2⟩ := z1
          obtain ⟨r, hr1, q1, rfl, fq1, oq1⟩ := rv.get hy
          rw [List.getElem?_map] at hx
          cases hxi : sizes[j]? with
          | none => rw [hxi] at hx; cases hx
          | some s0 =>
          rw [hxi] at hx
          have ex : V.int s0 = x := Option.some.inj hx
          subst ex
          have hjl : j < sizes.length := (List.getElem?_eq_some_iff.mp hxi).1
          have lr : r.length = (1 + r3).toNat := rc.row r (List.mem_of_getElem? hr1)
          have sT := same_new (o := .tup [.int s0, .ref q1]) hT
          have w2 := w1.trans sT
          have f1 := sT _ _ f1
          have f2 := sT _ _ f2
          refine ⟨T, [.int s0, .ref q1], rfl, SqT.of upd_same, rfl, .int s0, _, rfl, .ref q1, _, rfl, rfl, ?_⟩
          generalize upd G3 T (.tup [.int s0, .ref q1]) = G4 at f1 f2 w2
          have nF1 : G1 F = none := nF
          refine ⟨.ref F, rfl, .inl ⟨rfl, _, SqL.of f1⟩, .int s0, rfl, .ref q1, rfl, q1, r, rfl, SqT.of (w2 _ _ fq1), s0, _, rfl, rfl, F, _, _, rfl, rfl, f1, ?_, ?_⟩
          · rw [List.length_map, List.length_take]
            exact small1000 (by omega)
          have eF1 : (((freeR sizes rs).take j).map V.int) ++ [.int (s0 - r.sum)] = ((freeR sizes rs).take (j + 1)).map V.int := by
            have e : (freeR sizes rs)[j]? = some (s0 - r.sum) := by
              unfold freeR
              rw [List.getElem?_zipWith, hr1, hxi]
            rw [List.take_add_one, e, List.map_append]
            rfl
          rw [eF1]
          have w3 : Same G1 (upd G4 F (.lst (((freeR sizes rs).take (j + 1)).map V.int))) := fun y o hy => by
            rw [upd_ne (ne_of_none hy nF1)]
            exact w2 _ _ hy
          have f3 : upd G4 F (.lst (((freeR sizes rs).take (j + 1)).map V.int)) F = some (.lst (((freeR sizes rs).take (j + 1)).map V.int)) := upd_same
          have f4 : upd G4 F (.lst (((freeR sizes rs).take (j + 1)).map V.int)) Mj = some (.lst ((thR (rs.take j) (1 + r3).toNat).map V.int)) := by rw [upd_ne (Ne.symm neF)]; exact f2
          generalize upd G4 F (.lst (((freeR sizes rs).take (j + 1)).map V.int)) = G5 at w3 f3 f4
          refine ⟨.ref Mj, rfl, .ref q1, rfl, Mj, q1, _, _, rfl, SqL.of f4, SqT.of (w3 _ _ fq1), fun N nN => ?_⟩
          refine lc_zipLT (xs := (thR (rs.take j) (1 + r3).toNat).map V.int) (ys := r.map V.int) (by rw [List.length_map, List.length_map, th_len, lr]) (fun m G6 => Same G5 G6 ∧ G6 N = some (.lst (((List.zipWith (· + ·) (thR (rs.take j) (1 + r3).toNat) r).take m).map V.int)))
            ⟨same_new nN, upd_same⟩ (fun m G6 z1 => ⟨SqL.of (z1.1 _ _ f4), SqT.of (z1.1 _ _ (w3 _ _ fq1))⟩) (fun m x y T2 G6 hx2 hy2 hP2 hT2 => ?_) (fun G6 hP2 => ?_)
          · obtain ⟨s2, fN⟩ := hP2
            rw [List.getElem?_map] at hx2 hy2
            cases hx3 : (thR (rs.take j) (1 + r3).toNat)[m]? with
            | none => rw [hx3] at hx2; cases hx2
            | some x0 =>
            cases hy3 : r[m]? with
            | none => rw [hy3] at hy2; cases hy2
            | some y0 =>
            rw [hx3] at hx2
            rw [hy3] at hy2
            have ex : V.int x0 = x := Option.some.inj hx2
            have ey : V.int y0 = y := Option.some.inj hy2
            subst ex ey
            have s3 := same_new (o := .tup [.int x0, .int y0]) hT2
            have hml : m < r.length := (List.getElem?_eq_some_iff.mp hy3).1
            refine ⟨T2, [.int x0, .int y0], rfl, SqT.of upd_same, rfl, .int x0, _, rfl, .int y0, _, rfl, rfl, rfl, .int x0, rfl, .int y0, rfl, x0, y0, rfl, rfl, _, s3 _ _ fN, ?_, ?_, ?_⟩
            · rw [List.length_map, List.length_take]
              exact small1000 (by omega)
            · intro z o hz
              rw [upd_ne (ne_of_none hz nN)]
              exact s3 _ _ (s2 _ _ hz)
            · have e : (List.zipWith (· + ·) (thR (rs.take j) (1 + r3).toNat) r)[m]? = some (x0 + y0) := by rw [List.getElem?_zipWith, hx3, hy3]
              rw [upd_same, List.take_add_one, e, List.map_append]
              rfl
          · obtain ⟨s2, fN⟩ := hP2
            have e : (List.zipWith (· + ·) (thR (rs.take j) (1 + r3).toNat) r).take ((thR (rs.take j) (1 + r3).toNat).map V.int).length = thR (rs.take (j + 1)) (1 + r3).toNat := by
              rw [List.take_of_length_le (by rw [List.length_zipWith, List.length_map]; omega), th_step lr, List.take_add_one, hr1]
              rfl
            rw [e] at fN
            exact ⟨_, _, _, _, N, rfl, w3.trans s2, ne_of_none f3 nN, s2 _ _ f3, fN⟩
        · obtain ⟨y7, y12, y13, y14, Mj, rfl, w1, neF, f1, f2⟩ := z1
          rw [List.length_map, List.take_of_length_le (by unfold freeR; rw [List.length_zipWith]; omega)] at f1
          rw [List.length_map, List.take_of_length_le (by omega)] at f2
          have hs8 := hsA.same w1
          have sn8 := snA.keep (Kp.of w1)
          have D9 := DA.same w1
          have lf : (freeR sizes rs).length ≤ 100 := by unfold freeR; rw [List.length_zipWith]; omega
          have lt : (thR rs (1 + r3).toNat).length ≤ 100 := by rw [th_len]; omega
          refine ⟨.ref h, rfl, .ref qs, rfl, d, a, b, h, z, qs, sizes, 1 + r3, rs, rfl, hs8, sn8, lrs, by omega, fun Ga la sa na fa => ?_⟩
          have oa := D9.fresh na
          refine ⟨.ref qs, rfl, d, a, b, qs, sizes.length, (1 + r3).toNat, rs, rfl, sn8.keep (Kp.of sa), rc, by omega, by omega, by omega, fun Gb lb sb nb fb => ?_⟩
          have ob := (D9.same sa).fresh nb
          refine ⟨(by show 2 ≤ sizeLine; decide), fun L2 nL2 => ?_⟩
          have Db := (D9.same sa).same sb
          have oL2 := Db.fresh nL2
          have sc := same_new (o := .lst [.ref la, .ref lb]) nL2
          have fL2 : upd Gb L2 (.lst [.ref la, .ref lb]) L2 = some (.lst [.ref la, .ref lb]) := upd_same
          have fa := sc _ _ (sb _ _ fa)
          have fb := sc _ _ fb
          have s0c := sa.trans (sb.trans sc)
          have Dc := Db.same sc
          generalize upd Gb L2 (.lst [.ref la, .ref lb]) = Gc at fL2 fa fb s0c Dc
          refine ⟨.ref F, rfl, F, _, rfl, .inl ⟨SqL.of (s0c _ _ f1), fun t5 nt5 => ?_⟩⟩
          have od := Dc.fresh nt5
          have sd := same_new (o := .tup ((freeR sizes rs).map V.int)) nt5
          have Dd := Dc.same sd
          have fd1 : upd Gc t5 (.tup ((freeR sizes rs).map V.int)) t5 = some (.tup ((freeR sizes rs).map V.int)) := upd_same
          generalize upd Gc t5 (.tup ((freeR sizes rs).map V.int)) = Gd at sd Dd fd1
          refine ⟨.ref Mj, rfl, Mj, _, rfl, .inl ⟨SqL.of (sd _ _ (s0c _ _ f2)), fun t6 nt6 => ?_⟩⟩
          have oe := Dd.fresh nt6
          have se := same_new (o := .tup ((thR rs (1 + r3).toNat).map V.int)) nt6
          have De := Dd.same se
          have fe1 : upd Gd t6 (.tup ((thR rs (1 + r3).toNat).map V.int)) t6 = some (.tup ((thR rs (1 + r3).toNat).map V.int)) := upd_same
          generalize upd Gd t6 (.tup ((thR rs (1 + r3).toNat).map V.int)) = Ge at se De fe1
          refine ⟨(by show 2 ≤ sizeLine; decide), fun L3 nL3 => ?_⟩
          have oL3 := De.fresh nL3
          have sf := same_new (o := .lst [.ref t5, .ref t6]) nL3
          have fL3 : upd Ge L3 (.lst [.ref t5, .ref t6]) L3 = some (.lst [.ref t5, .ref t6]) := upd_same
          have s0f := s0c.trans (sd.trans (se.trans sf))
          have scf := sd.trans (se.trans sf)
          have sdf := se.trans sf
          generalize upd Ge L3 (.lst [.ref t5, .ref t6]) = Gf at sf fL3 s0f scf sdf
          have dt1 : Dt d a b Gf (.ref L2) (.list [.tuple ((freeR sizes rs).map .int), .tuple ((thR rs (1 + r3).toNat).map .int)]) :=
            .lst (scf _ _ fL2) oL2 (.cons (.tup (scf _ _ fa) oa (DtAll.ints _)) (.cons (.tup (scf _ _ fb) ob (DtAll.ints _)) .nil))
          have dt2 : Dt d a b Gf (.ref L3) (.list [.tuple ((freeR sizes rs).map .int), .tuple ((thR rs (1 + r3).toNat).map .int)]) :=
            .lst fL3 oL3 (.cons (.tup (sdf _ _ fd1) od (DtAll.ints _)) (.cons (.tup (sf _ _ fe1) oe (DtAll.ints _)) .nil))
          refine ⟨d, a, b, .ref L2, .ref L3, _, rfl, dt1, dt2, smd_two lf lt, depth_two, fun Gg sg => ⟨true, rfl, iteF ?_⟩⟩
          have s9 := s0f.trans sg
          have hs9 := hs8.same s9
          have sn9 := sn8.keep (Kp.of s9)
          refine ⟨.ref h, rfl, .ref qs, rfl, (by show 2 ≤ sizeLine; decide), fun u nu mu => shw hs9 sn9 sml nu mu fun Gh sh => ?_⟩
          refine ⟨_, rfl, rfl, _, rfl, ?_⟩
          rw [decide_eq_true rfl]
          have hs10 := hs9.same sh
          have sn10 := sn9.keep (Kp.of sh)
          refine iteF ⟨.ref h, rfl, .ref qs, rfl, d, a, b, h, z, qs, sizes, 1 + r3, rs, rfl, hs10, sn10, lrs, by omega, fun Gi li si ni fi => ⟨li, _, rfl, SqT.of fi, ?_⟩⟩
          refine ⟨.ref qs, rfl, d, a, b, qs, sizes.length, (1 + r3).toNat, rs, rfl, sn10.keep (Kp.of si), rc, by omega, by omega, by omega, fun Gj lj sj nj fj => ⟨lj, _, rfl, SqT.of fj, _, _, rfl, rfl, ?_⟩⟩
          have em : (freeR sizes rs).sum + (thR rs (1 + r3).toNat).sum = sizes.sum := by
            rw [free_sum lrs, th_sum rc.row]
            omega
          have hb : (!decide (V.int ((freeR sizes rs).sum + (thR rs (1 + r3).toNat).sum) = V.int sizes.sum)) = false := by
            rw [em, decide_eq_true rfl]
            rfl
          refine ⟨.ref z, rfl, z, sizes, rfl, SqT.of (sj _ _ (si _ _ hs10.z)), rfl, false, congrArg V.bl hb, ?_⟩
          exact iteF ⟨sG.trans (t1.trans (w1.trans (s9.trans (sh.trans (si.trans sj))))), _, _, _, _, _, _, _, _, rfl⟩
      · obtain ⟨sG, y7, y8, y9, y10, y11, y12, y13, y14, rfl⟩ := z1
        exact ⟨_, _, _, _, _, _, _, _, _, _, _, _, _, rfl, (D8.same sG).mono (by omega)⟩
    · obtain ⟨y2, y3, y4, y5, y6, y7, y8, y9, y10, y11, y12, y13, y14, rfl, D1⟩ := hP
      exact q H1

end

end Fr

set_option Elab.async false
set_option linter.all false
set_option maxRecDepth 100000
namespace Fr
open PySem PySem.Spec PyProof.Rows L2
theorem all_mk {l : PySem.W.OpenLaw} {w : World} {K : PySem.W.Frag} {h : Heap} {mg : Str → Option Value} {fa : Addr}
    (X : K.In h) (G : h.Ns mainGlobals mg) (hfa : mg "law" = some (.ref fa))
    {f0 : Addr} {od0 an0 : Option Addr} {sl0 : Array (Option Value)} {oc0 kv0 dc0 pm0 cd0 ct0 : Value}
    (a0 : PySem.W.nsIn K mainGlobals "places" = some (some (.ref f0)))
    (l0 : K.lookup f0 = some ⟨oc0, od0, .func (PySem.W.fnOf "places" "places" (defArgs sPlaces) (defBody sPlaces) (defScope sPlaces) .none kv0 dc0 pm0 an0 cd0 ct0), sl0⟩)
    (c0 : PySem.W.codeIn K cd0 "places" = true) (k0 : PySem.W.keepIn K (.ref f0) = true)
    {f1 : Addr} {od1 an1 : Option Addr} {sl1 : Array (Option Value)} {oc1 kv1 dc1 pm1 cd1 ct1 : Value}
    (a1 : PySem.W.nsIn K mainGlobals "things" = some (some (.ref f1)))
    (l1 : K.lookup f1 = some ⟨oc1, od1, .func (PySem.W.fnOf "things" "things" (defArgs sThings) (defBody sThings) (defScope sThings) .none kv1 dc1 pm1 an1 cd1 ct1), sl1⟩)
    (c1 : PySem.W.codeIn K cd1 "things" = true) (k1 : PySem.W.keepIn K (.ref f1) = true)
    {f2 : Addr} {od2 an2 : Option Addr} {sl2 : Array (Option Value)} {oc2 kv2 dc2 pm2 cd2 ct2 : Value}
    (a2 : PySem.W.nsIn K mainGlobals "_law_deck" = some (some (.ref f2)))
    (l2 : K.lookup f2 = some ⟨oc2, od2, .func (PySem.W.fnOf "_law_deck" "_law_deck" (defArgs sDeck) (defBody sDeck) (defScope sDeck) .none kv2 dc2 pm2 an2 cd2 ct2), sl2⟩)
    (c2 : PySem.W.codeIn K cd2 "_law_deck" = true) (k2 : PySem.W.keepIn K (.ref f2) = true)
    {f3 : Addr} {od3 an3 : Option Addr} {sl3 : Array (Option Value)} {oc3 kv3 dc3 pm3 cd3 ct3 : Value}
    (a3 : PySem.W.nsIn K mainGlobals "_law_next" = some (some (.ref f3)))
    (l3 : K.lookup f3 = some ⟨oc3, od3, .func (PySem.W.fnOf "_law_next" "_law_next" (defArgs sNext) (defBody sNext) (defScope sNext) .none kv3 dc3 pm3 an3 cd3 ct3), sl3⟩)
    (c3 : PySem.W.codeIn K cd3 "_law_next" = true) (k3 : PySem.W.keepIn K (.ref f3) = true)
    {f4 : Addr} {od4 an4 : Option Addr} {sl4 : Array (Option Value)} {oc4 kv4 dc4 pm4 cd4 ct4 : Value}
    (a4 : PySem.W.nsIn K mainGlobals "_law_one" = some (some (.ref f4)))
    (l4 : K.lookup f4 = some ⟨oc4, od4, .func (PySem.W.fnOf "_law_one" "_law_one" (defArgs sOne) (defBody sOne) (defScope sOne) .none kv4 dc4 pm4 an4 cd4 ct4), sl4⟩)
    (c4 : PySem.W.codeIn K cd4 "_law_one" = true) (k4 : PySem.W.keepIn K (.ref f4) = true)
    {f5 : Addr} {od5 an5 : Option Addr} {sl5 : Array (Option Value)} {oc5 kv5 dc5 pm5 cd5 ct5 : Value}
    (a5 : PySem.W.nsIn K mainGlobals "_law_same" = some (some (.ref f5)))
    (l5 : K.lookup f5 = some ⟨oc5, od5, .func (PySem.W.fnOf "_law_same" "_law_same" (defArgs sSame) (defBody sSame) (defScope sSame) .none kv5 dc5 pm5 an5 cd5 ct5), sl5⟩)
    (c5 : PySem.W.codeIn K cd5 "_law_same" = true) (k5 : PySem.W.keepIn K (.ref f5) = true)
    {f6 : Addr} {od6 an6 : Option Addr} {sl6 : Array (Option Value)} {oc6 kv6 dc6 pm6 cd6 ct6 : Value}
    (a6 : PySem.W.nsIn K mainGlobals "_law_amount" = some (some (.ref f6)))
    (l6 : K.lookup f6 = some ⟨oc6, od6, .func (PySem.W.fnOf "_law_amount" "_law_amount" (defArgs sAmount) (defBody sAmount) (defScope sAmount) .none kv6 dc6 pm6 an6 cd6 ct6), sl6⟩)
    (c6 : PySem.W.codeIn K cd6 "_law_amount" = true) (k6 : PySem.W.keepIn K (.ref f6) = true)
    {f7 : Addr} {od7 an7 : Option Addr} {sl7 : Array (Option Value)} {oc7 kv7 dc7 pm7 cd7 ct7 : Value}
    (a7 : PySem.W.nsIn K mainGlobals "_law_house" = some (some (.ref f7)))
    (l7 : K.lookup f7 = some ⟨oc7, od7, .func (PySem.W.fnOf "_law_house" "_law_house" (defArgs sHouse) (defBody sHouse) (defScope sHouse) .none kv7 dc7 pm7 an7 cd7 ct7), sl7⟩)
    (c7 : PySem.W.codeIn K cd7 "_law_house" = true) (k7 : PySem.W.keepIn K (.ref f7) = true)
    {f8 : Addr} {od8 an8 : Option Addr} {sl8 : Array (Option Value)} {oc8 kv8 dc8 pm8 cd8 ct8 : Value}
    (a8 : PySem.W.nsIn K mainGlobals "_law_row" = some (some (.ref f8)))
    (l8 : K.lookup f8 = some ⟨oc8, od8, .func (PySem.W.fnOf "_law_row" "_law_row" (defArgs sRow) (defBody sRow) (defScope sRow) .none kv8 dc8 pm8 an8 cd8 ct8), sl8⟩)
    (c8 : PySem.W.codeIn K cd8 "_law_row" = true) (k8 : PySem.W.keepIn K (.ref f8) = true)
    {f9 : Addr} {od9 an9 : Option Addr} {sl9 : Array (Option Value)} {oc9 kv9 dc9 pm9 cd9 ct9 : Value}
    (a9 : PySem.W.nsIn K mainGlobals "_law_stand" = some (some (.ref f9)))
    (l9 : K.lookup f9 = some ⟨oc9, od9, .func (PySem.W.fnOf "_law_stand" "_law_stand" (defArgs sStand) (defBody sStand) (defScope sStand) .none kv9 dc9 pm9 an9 cd9 ct9), sl9⟩)
    (c9 : PySem.W.codeIn K cd9 "_law_stand" = true) (k9 : PySem.W.keepIn K (.ref f9) = true)
    {f10 : Addr} {od10 an10 : Option Addr} {sl10 : Array (Option Value)} {oc10 kv10 dc10 pm10 cd10 ct10 : Value}
    (a10 : PySem.W.nsIn K mainGlobals "law" = some (some (.ref f10)))
    (l10 : K.lookup f10 = some ⟨oc10, od10, .func (PySem.W.fnOf "law" "law" (defArgs sLaw) (defBody sLaw) (defScope sLaw) .none kv10 dc10 pm10 an10 cd10 ct10), sl10⟩)
    (c10 : PySem.W.codeIn K cd10 "law" = true) (k10 : PySem.W.keepIn K (.ref f10) = true)
    (z_abs : PySem.W.nsIn K mainGlobals "abs" = some none)
    (z_len : PySem.W.nsIn K mainGlobals "len" = some none)
    (z_isinstance : PySem.W.nsIn K mainGlobals "isinstance" = some none)
    (z_int : PySem.W.nsIn K mainGlobals "int" = some none)
    (z_bool : PySem.W.nsIn K mainGlobals "bool" = some none)
    (z_tuple : PySem.W.nsIn K mainGlobals "tuple" = some none)
    (z_list : PySem.W.nsIn K mainGlobals "list" = some none)
    (z_str : PySem.W.nsIn K mainGlobals "str" = some none)
    (z_range : PySem.W.nsIn K mainGlobals "range" = some none)
    (z_repr : PySem.W.nsIn K mainGlobals "repr" = some none)
    (z_sum : PySem.W.nsIn K mainGlobals "sum" = some none)
    (z_zip : PySem.W.nsIn K mainGlobals "zip" = some none)
    (z_min : PySem.W.nsIn K mainGlobals "min" = some none)
    : ∃ fd : FuncData, (∀ (s : Shared) (v : Value), BindsTo s fd ⟨[v], []⟩ [("_law_script", v)]) ∧
      ∀ base : Heap, K.In base → base.Ns mainGlobals mg → FnG l.prog w K mg base 5 fa fd ["_law_script"] (spLaw K) := by
  have e := hfa.symm.trans (PySem.W.mg_of X G a10)
  cases e
  have F_Places := fun_mk (st := sPlaces) l0 c0 k0
  have g_Places := PySem.W.mg_of X G a0
  have b_Places := F_Places.binds (ps := ["house", "stand"]) fun _ _ _ _ _ _ us hl => match us, hl with | [_, _], _ => rfl
  have F_Things := fun_mk (st := sThings) l1 c1 k1
  have g_Things := PySem.W.mg_of X G a1
  have b_Things := F_Things.binds (ps := ["stand"]) fun _ _ _ _ _ _ us hl => match us, hl with | [_], _ => rfl
  have F_Deck := fun_mk (st := sDeck) l2 c2 k2
  have g_Deck := PySem.W.mg_of X G a2
  have b_Deck := F_Deck.binds (ps := ["_law_script"]) fun _ _ _ _ _ _ us hl => match us, hl with | [_], _ => rfl
  have F_Next := fun_mk (st := sNext) l3 c3 k3
  have g_Next := PySem.W.mg_of X G a3
  have b_Next := F_Next.binds (ps := ["_law_deck_here", "_law_many"]) fun _ _ _ _ _ _ us hl => match us, hl with | [_, _], _ => rfl
  have F_One := fun_mk (st := sOne) l4 c4 k4
  have g_One := PySem.W.mg_of X G a4
  have b_One := F_One.binds (ps := ["_law_deck_here", "_law_some"]) fun _ _ _ _ _ _ us hl => match us, hl with | [_, _], _ => rfl
  have F_Same := fun_mk (st := sSame) l5 c5 k5
  have g_Same := PySem.W.mg_of X G a5
  have b_Same := F_Same.binds (ps := ["_law_found", "_law_due"]) fun _ _ _ _ _ _ us hl => match us, hl with | [_, _], _ => rfl
  have F_Amount := fun_mk (st := sAmount) l6 c6 k6
  have g_Amount := PySem.W.mg_of X G a6
  have b_Amount := F_Amount.binds (ps := ["_law_deck_here", "_law_high"]) fun _ _ _ _ _ _ us hl => match us, hl with | [_, _], _ => rfl
  have F_House := fun_mk (st := sHouse) l7 c7 k7
  have g_House := PySem.W.mg_of X G a7
  have b_House := F_House.binds (ps := ["_law_deck_here", "_law_rooms", "_law_kinds"]) fun _ _ _ _ _ _ us hl => match us, hl with | [_, _, _], _ => rfl
  have F_Row := fun_mk (st := sRow) l8 c8 k8
  have g_Row := PySem.W.mg_of X G a8
  have b_Row := F_Row.binds (ps := ["_law_deck_here", "_law_size", "_law_kinds"]) fun _ _ _ _ _ _ us hl => match us, hl with | [_, _, _], _ => rfl
  have F_Stand := fun_mk (st := sStand) l9 c9 k9
  have g_Stand := PySem.W.mg_of X G a9
  have b_Stand := F_Stand.binds (ps := ["_law_deck_here", "_law_house_here"]) fun _ _ _ _ _ _ us hl => match us, hl with | [_, _], _ => rfl
  have F_Law := fun_mk (st := sLaw) l10 c10 k10
  have g_Law := PySem.W.mg_of X G a10
  have m_abs := PySem.W.mg_none_of X G z_abs
  have m_len := PySem.W.mg_none_of X G z_len
  have m_isinstance := PySem.W.mg_none_of X G z_isinstance
  have m_int := PySem.W.mg_none_of X G z_int
  have m_bool := PySem.W.mg_none_of X G z_bool
  have m_tuple := PySem.W.mg_none_of X G z_tuple
  have m_list := PySem.W.mg_none_of X G z_list
  have m_str := PySem.W.mg_none_of X G z_str
  have m_range := PySem.W.mg_none_of X G z_range
  have m_repr := PySem.W.mg_none_of X G z_repr
  have m_sum := PySem.W.mg_none_of X G z_sum
  have m_zip := PySem.W.mg_none_of X G z_zip
  have m_min := PySem.W.mg_none_of X G z_min
  refine ⟨PySem.W.fnOf "law" "law" (defArgs sLaw) (defBody sLaw) (defScope sLaw) .none kv10 dc10 pm10 an10 cd10 ct10, fun s v => .of_eq rfl, fun base _ _ => ?_⟩
  · have C_Next := Callee.mk' (P := l.prog) (w := w) (base := base) F_Next g_Next b_Next (ok_next (k := 0) F_Next m_len)
    have C_Deck := Callee.mk' (P := l.prog) (w := w) (base := base) F_Deck g_Deck b_Deck (ok_deck (k := 0) F_Deck m_len m_abs)
    have C_One := Callee.mk' (P := l.prog) (w := w) (base := base) F_One g_One b_One (ok_one (k := 1) F_One m_len C_Next (by decide))
    have C_House := Callee.mk' (P := l.prog) (w := w) (base := base) F_House g_House b_House (ok_house (k := 2) F_House m_range m_tuple (C_Next.mono (by decide)) C_One (by decide))
    have C_Amount := Callee.mk' (P := l.prog) (w := w) (base := base) F_Amount g_Amount b_Amount (ok_amount (k := 1) F_Amount m_min C_Next (by decide))
    have C_Row := Callee.mk' (P := l.prog) (w := w) (base := base) F_Row g_Row b_Row (ok_row (k := 2) F_Row m_min m_range m_tuple (C_Next.mono (by decide)) C_One C_Amount (by decide))
    have C_Stand := Callee.mk' (P := l.prog) (w := w) (base := base) F_Stand g_Stand b_Stand (ok_stand (k := 3) F_Stand m_tuple C_Row (by decide))
    have C_Places := Callee.mk' (P := l.prog) (w := w) (base := base) F_Places g_Places b_Places (ok_places (k := 0) F_Places m_sum m_tuple m_zip)
    have C_Things := Callee.mk' (P := l.prog) (w := w) (base := base) F_Things g_Things b_Things (ok_things (k := 0) F_Things m_sum m_tuple m_zip)
    have C_Same0 := Callee.mk' (P := l.prog) (w := w) (base := base) F_Same g_Same b_Same (no_same (k := 0))
    have C_Same1 := Callee.mk' (P := l.prog) (w := w) (base := base) F_Same g_Same b_Same (ok_same (k := 0) (j := 0) 0 F_Same m_len m_isinstance m_tuple m_list m_int m_str m_bool m_range C_Same0 (by decide))
    have C_Same2 := Callee.mk' (P := l.prog) (w := w) (base := base) F_Same g_Same b_Same (ok_same (k := 1) (j := 1) 1 F_Same m_len m_isinstance m_tuple m_list m_int m_str m_bool m_range C_Same1 (by decide))
    have C_Same3 := Callee.mk' (P := l.prog) (w := w) (base := base) F_Same g_Same b_Same (ok_same (k := 2) (j := 2) 2 F_Same m_len m_isinstance m_tuple m_list m_int m_str m_bool m_range C_Same2 (by decide))
    exact ok_law (k := 4) F_Law m_range m_tuple m_repr m_sum m_len m_zip (C_Deck.mono (by decide)) (C_Next.mono (by decide)) (C_House.mono (by decide)) C_Stand (C_Places.mono (by decide)) (C_Things.mono (by decide)) (C_Same3.mono (by decide))
end Fr
open PySem PySem.W PyProof.Rows
set_option maxHeartbeats 0 in
theorem PySem.Challenge.cw_fullrooms_k05_places_and_things_holds : PySem.Challenge.rw_fullrooms_k05_places_and_things.Holds := by
  w_on; o_law; k_head; (case hw => w_witness2)
  k_fill
  refine Fr.walkG (l := PySem.Challenge.rw_fullrooms_k05_places_and_things) (n := 63) (k := 5) (x := "_law_script") (sp := fun w => Fr.spLaw _) rfl (by decide) rfl
    ⟨rfl, by decide, by decide⟩ (fun w h Y => PySem.W.kIn_of Y) ?F (fun _ _ a ns hl _ hS => ⟨a, ns, rfl, hS, hl, fun _ => rfl⟩)
  case F =>
    intro w mg fa h KX G hmg
    refine' Fr.all_mk KX G hmg ?a0 ?l0 ?c0 ?k0 ?a1 ?l1 ?c1 ?k1 ?a2 ?l2 ?c2 ?k2 ?a3 ?l3 ?c3 ?k3 ?a4 ?l4 ?c4 ?k4 ?a5 ?l5 ?c5 ?k5 ?a6 ?l6 ?c6 ?k6 ?a7 ?l7 ?c7 ?k7 ?a8 ?l8 ?c8 ?k8 ?a9 ?l9 ?c9 ?k9 ?a10 ?l10 ?c10 ?k10 ?z_abs ?z_len ?z_isinstance ?z_int ?z_bool ?z_tuple ?z_list ?z_str ?z_range ?z_repr ?z_sum ?z_zip ?z_min
    (case a0 => k_is); (case l0 => k_is); (case c0 => k_is); (case k0 => k_is); (case a1 => k_is); (case l1 => k_is); (case c1 => k_is); (case k1 => k_is); (case a2 => k_is); (case l2 => k_is); (case c2 => k_is); (case k2 => k_is); (case a3 => k_is); (case l3 => k_is); (case c3 => k_is); (case k3 => k_is); (case a4 => k_is); (case l4 => k_is); (case c4 => k_is); (case k4 => k_is); (case a5 => k_is); (case l5 => k_is); (case c5 => k_is); (case k5 => k_is); (case a6 => k_is); (case l6 => k_is); (case c6 => k_is); (case k6 => k_is); (case a7 => k_is); (case l7 => k_is); (case c7 => k_is); (case k7 => k_is); (case a8 => k_is); (case l8 => k_is); (case c8 => k_is); (case k8 => k_is); (case a9 => k_is); (case l9 => k_is); (case c9 => k_is); (case k9 => k_is); (case a10 => k_is); (case l10 => k_is); (case c10 => k_is); (case k10 => k_is); (case z_abs => k_is); (case z_len => k_is); (case z_isinstance => k_is); (case z_int => k_is); (case z_bool => k_is); (case z_tuple => k_is); (case z_list => k_is); (case z_str => k_is); (case z_range => k_is); (case z_repr => k_is); (case z_sum => k_is); (case z_zip => k_is); (case z_min => k_is)
