import PyProof.Rows.All
import Wide.All
import OpenK.AllK
import Wide.FinOn
import HandS.ForMost
import HandS.Exc
import HandS.ExcInit
import HandS.ExcIs
import HandS.ExcField
import HandS.TryOnly
import HandS.Lambda
import HandS.IsInst
import KE.KExcIs
import KE.GoesEnumKw
import HandS.Iter
import HandS.More
import HandS.DictComp
import HandS.StrMore
import HandS.Zip
import HandS.Conv
import HandS.Flow
import HandS.Defaults
import HandS.WideBits
import HandS.FStr
import PyProof.StrBlock2
import HandS.Evl
import HandS.Walk
import HandS.Codes
import HandS.WordsExc
import HandS.Dict
import HandS.EndTab
import HandS.Wide
import HandS.RaiseMore
import PySem.Challenge.RW_uselots_k05_what_is_no_program
set_option Elab.async false
set_option linter.all false
set_option maxRecDepth 100000
set_option maxHeartbeats 4000000
/-! A caught exception that is kept as a value. -/
namespace Xv
open PySem PySem.Spec PyProof.Rows L2

def exv (a : Addr) (cls : Value) (d : Option Addr) : HO := .ext fun h => ∃ (ob : Obj) (fv : Array Value), h.get? a = some ob ∧ ob.cls = cls ∧ ob.dict = d ∧ ob.data = .fields fv
theorem exv_ok {P : Program} {w : World} {H : Hp} {h : Heap} {a : Addr} {cls : Value} {d : Option Addr} {ob : Obj} {fv : Array Value} (e : h.get? a = some ob) (h1 : ob.cls = cls) (h2 : ob.dict = d) (h3 : ob.data = .fields fv) : ObjOk P w H h a (exv a cls d) :=
  ⟨⟨ob, fv, e, h1, h2, h3⟩, ⟨ob, e⟩, fun _ _ ⟨o, v, q, r⟩ k => ⟨o, v, k o q, r⟩⟩
theorem exv_at {P : Program} {w : World} {H : Hp} {h : Heap} {a : Addr} {cls : Value} {d : Option Addr} (hok : HOk P w H h) (e : H a = some (exv a cls d)) : ∃ (ob : Obj) (fv : Array Value), h.get? a = some ob ∧ ob.cls = cls ∧ ob.dict = d ∧ ob.data = .fields fv :=
  (show ObjOk P w H h a (.ext fun h => ∃ (ob : Obj) (fv : Array Value), h.get? a = some ob ∧ ob.cls = cls ∧ ob.dict = d ∧ ob.data = .fields fv) from hok a _ e).1
section
variable {X : Cx} {pins : List (Addr × Obj)} {σ : L2.St} {H : Hp} {s : Shared} {a : Addr} {oe : Obj} {fv : Array Value} {cls : Value} {d : Option Addr}
/-- what was pinned is tracked from now on -/
theorem inv_hold (J : Inv X ((a, oe) :: pins) σ H s) (hz : Zc cls d oe) (hd : oe.data = .fields fv) (h0 : X.s_0.heap.get? a = none) (np : ∀ p ∈ X.pn ++ pins, p.1 ≠ a) : Inv X pins σ (upd H a (exv a cls d)) s := by
  obtain ⟨ea, na, nL, nF, nc⟩ := J.pin (a, oe) (List.mem_append_right _ List.mem_cons_self)
  have ea : s.heap.get? a = some oe := ea
  have na : H a = none := na
  have old : ∀ {b : Addr} {o : Obj}, X.s_0.heap.get? b = some o → b ≠ a := fun q z => by rw [z, h0] at q; cases q
  have tr : ∀ {b : Addr} {o : HO}, H b = some o → b ≠ a := fun q => ne_of_none q na
  refine ⟨J.ok, J.os, J.bare, ⟨J.base.keep, J.base.slot, fun b o q n hx => ?_, J.base.there, fun b xs q => ?_, fun b o u q => ?_, fun b ps q => ?_⟩, J.loc, J.cell, ?_, fun x c q => ?_, fun p hp => ?_, fun b o q => ?_, J.len⟩
  · rw [upd_ne (old q)]; exact J.base.free b o q n hx
  · have z := J.base.tups b xs q
    rw [upd_ne (tr z)]; exact z
  · have z := J.base.frzs b o u q
    rw [upd_ne (tr z)]; exact z
  · obtain ⟨more, z⟩ := J.base.tbls b ps q
    exact ⟨more, by rw [upd_ne (tr z)]; exact z⟩
  · rw [upd_ne (Ne.symm nL)]; exact J.free
  · have hne : c ≠ a := fun z => by
      obtain ⟨v, o, ho, hdc⟩ := J.cell x c q
      rw [z, ea] at ho
      cases ho
      exact nc v hdc
    rw [upd_ne hne]; exact J.freeC x c q
  · have hp' : p ∈ X.pn ++ (a, oe) :: pins := by
      rcases List.mem_append.mp hp with z | z
      · exact List.mem_append_left _ z
      · exact List.mem_append_right _ (List.mem_cons_of_mem _ z)
    obtain ⟨p1, p2, p3⟩ := J.pin p hp'
    exact ⟨p1, by rw [upd_ne (np p hp)]; exact p2, p3⟩
  · by_cases hb : b = a
    · subst hb
      rw [upd_same] at q
      cases q
      exact exv_ok ea hz.1 hz.2 hd
    · rw [upd_ne hb] at q
      exact (J.hok b o q).stay (fun _ _ _ r => r) (fun c r => by rw [upd_ne (tr r)]; exact r) fun c xs r => by rw [upd_ne (tr r)]; exact r
end
def wKeep (K : PySem.W.Frag) (n : Nat) (c : Value) (i : Nat) (ts : Addr → Value → Option Addr → TS) (D : Ends) : WX := fun cls d σ H =>
  PySem.W.exmOne K cls c = some true ∧ ∀ a, H a = none → σ.length = n → ts a cls d
    { nx := fun σ' H' => H' a = none → D.nx (σ'.set i none) (upd H' a (exv a cls d)), rt := fun v H' => H' a = none → D.rt v (upd H' a (exv a cls d)), bk := fun σ' H' => H' a = none → D.bk (σ'.set i none) (upd H' a (exv a cls d)), ct := fun σ' H' => H' a = none → D.ct (σ'.set i none) (upd H' a (exv a cls d)) }
    (σ.set i (some (.ref a))) H
section
variable {X : Cx} {x n : Str} {c : Value} {i : Nat} {body suite : List Stmt} {b₀ : Stmt} {np pos pos' : Pos} {tb : WX → TS} {ts : Addr → Value → Option Addr → TS}
/-- try: body / except x as n: suite, where all that the body raises is an x; it is kept -/
theorem ps_try_keep (hs : X.stack = X.env :: X.outer) (hf : X.env.frame = some X.env.locals) (hex : X.ex = []) (hN : X.N.Nodup) (hi : X.N[i]? = some n) (hln : X.env.kindOf n = some .local) (hc : Names X x c)
    (hb : ∀ (W : WX) (pn : List (Addr × Obj)) (xe : Value → Shared → Prop), Takes (X.tr pn xe) W → PassesOwn (model X.prog X.w) X.A X.env xe → PSs (X.tr pn xe) body (tb W))
    (hsu : ∀ (a : Addr) (oe : Obj) (cls : Value) (d : Option Addr) (pn : List (Addr × Obj)), Zc cls d oe → (∃ vs, oe.data = .fields vs) → PSs (X.suite a ((a, oe) :: pn)) (b₀ :: suite) (ts a cls d)) :
    PS X (.Try body [.ExceptHandler (some (.Name x np)) (some n) (b₀ :: suite) pos'] [] [] pos) (fun D σ H => tb (wKeep X.K X.N.length c i ts D) D σ H) := by
  refine ⟨fun pins s σ H D I h => wpAny_Try_except ?_⟩
  have ok := I.ok
  have frs2 : X.A.frames = some (X.env :: X.outer) := by rw [ok.frames, hs]
  have caught : Takes (X.tr (X.pn ++ pins) (fun e s₁ => wpAny (model X.prog X.w) X.A (noteFrame e X.env) (fun _ s₂ => wpAny (model X.prog X.w) X.A (setFlight e none) (fun _ s₃ =>
      wpAny (model X.prog X.w) X.A (handleBy e X.env [.ExceptHandler (some (.Name x np)) (some n) (b₀ :: suite) pos']) (SP X pins D) X.xe s₃) X.xe s₂) X.xe s₁)) (wKeep X.K X.N.length c i ts D) := by
    intro u s' xx
    obtain ⟨a, B, sI, pins', σ', H', cls, d, rfl, J0, nb, up, sky, na, os, ag, hm, hgo⟩ := xx
    have J := J0.ofTry ok
    rw [hs] at sky
    show wpAny (model X.prog X.w) X.A (noteFrame (.ref a) X.env) _ _ _
    refine Sky.land Zc.steady frs2 hf sky fun h3 fl up3 => ?_
    have J3 := J.landed (s' := { s' with heap := h3 }) nb fl.1 (up.trans up3) os ag
    obtain ⟨o3, v3, e3, z3, d3⟩ := fl.there
    have off : a ∉ frs (X.env :: X.outer) := fun hm => by
      obtain ⟨_, o', e', hnf⟩ := fl.2.2.1.mem hm
      rw [e3] at e'
      cases e'
      exact hnf _ d3
    have nL : a ≠ X.env.locals := fun z => off (List.mem_filterMap.mpr ⟨X.env, List.mem_cons_self, by rw [hf, z]⟩)
    have nF : a ∉ X.fs := fun hm => by
      obtain ⟨e, he, q⟩ := List.mem_filterMap.mp hm
      exact off (List.mem_filterMap.mpr ⟨e, List.mem_cons_of_mem _ he, q⟩)
    have nB : B.get? a = none := fl.2.1
    have nI : sI.heap.get? a = none := by
      cases q : sI.heap.get? a with
      | none => rfl
      | some o =>
        have z := nb a o q (by rw [hs]; exact off)
        rw [nB] at z
        cases z
    have n0 : X.s_0.heap.get? a = none := by
      cases q : X.s_0.heap.get? a with
      | none => rfl
      | some o =>
        obtain ⟨o', z⟩ := J.base.there a o q (by rw [hex]; simp)
        rw [nI] at z
        cases z
    have npp : ∀ p ∈ X.pn ++ pins, p.1 ≠ a := fun p hp z => by
      have q := (J.pin p hp).1
      rw [z, nI] at q
      cases q
    have S3 := J3.suite e3 d3 na nL nF
    refine wpAny_handleBy_cons (codeAny_handlers_test ?_) (by intro q; cases q)
    have ty : PySem.W.Looks (model X.prog X.w) h3 (typeOf (.ref a)) cls := fun A Q E s k q => wpAny_typeOf_ref (k _ _ e3) (by rw [z3.1]; exact q)
    have named : ∀ {Q : Value → Shared → Prop} {E : Value → Shared → Prop}, Q c { s' with heap := h3 } → wpAny (model X.prog X.w) (X.A.mark (some (.ref a))) (eval (.Name x np) X.env) Q E { s' with heap := h3 } := fun q => by
      obtain ⟨hg, hdbg, hm | ⟨hm, hv, hnn⟩⟩ := hc
      · exact ld_glob (X := X.suite a ((a, o3) :: (X.pn ++ pins))) S3 hg hm q hdbg
      · exact ld_blt (X := X.suite a ((a, o3) :: (X.pn ++ pins))) S3 hg hm hv q hnn hdbg
    refine named ((PySem.W.exm_one (M := model X.prog X.w) J3.kIn ty hm).here (codeAny_handlers_suite_as (HandSPX.lands_againZ fl fun h4 fl4 up4 => ?_)))
    have J4 := J.landed (s' := { s' with heap := h4 }) nb fl4.1 ((up.trans up3).trans up4) os ag
    obtain ⟨o4, v4, e4, z4, d4⟩ := fl4.there
    have S4 := J4.suite e4 d4 na nL nF
    refine store_ok (X := X.suite a ((a, o4) :: (X.pn ++ pins))) (v := .ref a) S4 hN hi (.inl hln) rfl (fun s5 S5 => ?_) (.inr hln)
    refine wpAny_mono ((hsu a o4 cls d (X.pn ++ pins) z4 ⟨_, d4⟩).run [] s5 _ H' _ S5 (hgo a na J.len)) (fun f s6 fin => ?_) (fun _ _ z => False.elim z)
    have leave : ∀ {τ : L2.St} {G : Hp} {Q : Shared → Prop}, Inv (X.suite a ((a, o4) :: (X.pn ++ pins))) [] τ G s6 → (G a = none → ∀ s7, Inv X pins (τ.set i none) (upd G a (exv a cls d)) s7 → Q s7) →
        wpAny (model X.prog X.w) X.A (do bindName X.env n .none; unbindBehindTheSuite X.env n pos') (fun _ s7 => Q s7) X.xe s6 := fun {τ G Q} T6 hq => by
      have T7 : Inv X ((a, o4) :: pins) τ G s6 := ⟨ok, T6.os, T6.bare, T6.base, T6.loc, T6.cell, T6.free, T6.freeC, fun p hp => T6.pin p (by
        rcases List.mem_append.mp hp with z | z
        · exact List.mem_append_left _ (List.mem_cons_of_mem _ (List.mem_append_left _ z))
        · rcases List.mem_cons.mp z with z | z
          · exact List.mem_append_left _ (by rw [z]; exact List.mem_cons_self)
          · exact List.mem_append_left _ (List.mem_cons_of_mem _ (List.mem_append_right _ z))), T6.hok, T6.len⟩
      exact gone_ok T7 hN hi hln fun s7 T8 => hq (T6.pin (a, o4) (List.mem_append_left _ List.mem_cons_self)).2.1 s7 (inv_hold T8 z4 d4 n0 npp)
    cases f with
    | next =>
      obtain ⟨τ, G, T6, q6⟩ := fin
      exact leave T6 fun n6 s7 T => ⟨_, _, T, q6 n6⟩
    | brk =>
      obtain ⟨τ, G, T6, q6⟩ := fin
      exact leave T6 fun n6 s7 T => ⟨_, _, T, q6 n6⟩
    | cont =>
      obtain ⟨τ, G, T6, q6⟩ := fin
      exact leave T6 fun n6 s7 T => ⟨_, _, T, q6 n6⟩
    | ret u =>
      obtain ⟨v6, τ, G, T6, r6, q6⟩ := fin
      exact leave T6 fun n6 s7 T => ⟨_, _, _, T, r6, q6 n6⟩
  refine wpAny_mono ((hb (wKeep X.K X.N.length c i ts D) (X.pn ++ pins) _ caught PassesOwn.looking).run [] s σ H D (I.toTry _) h) (fun f s1 fin => ?_) (fun e s1 he => he)
  cases f with
  | next =>
    obtain ⟨τ, G, T, q⟩ := fin
    exact wpAny_execs_nil ⟨τ, G, T.ofTry ok, q⟩
  | brk =>
    obtain ⟨τ, G, T, q⟩ := fin
    exact ⟨τ, G, T.ofTry ok, q⟩
  | cont =>
    obtain ⟨τ, G, T, q⟩ := fin
    exact ⟨τ, G, T.ofTry ok, q⟩
  | ret u =>
    obtain ⟨v, τ, G, T, r, q⟩ := fin
    exact ⟨v, τ, G, T.ofTry ok, r, q⟩
end

/-! ### the def that calls what it got, and hands back what it raised -/
section
variable {X : Cx}
/-- try: act = call() / except e as caught: return (caught, None) / return (None, act) -/
def TTcaught (K : PySem.W.Frag) (CS : Addr) : (XK → Hp → VK → Prop) → Hp → VK → Prop := fun tl H Q =>
  tl (fun cls d H' => PySem.W.exmOne K cls (.ref CS) = some true ∧ ∀ a t, H' a = none → H' t = none → t ≠ a → Q (.ref t) (upd (upd H' t (.tup [.ref a, .non])) a (exv a cls d))) H
    (fun v H' => ∀ t, H' t = none → Q (.ref t) (upd H' t (.tup [.non, v])))
theorem caught_gives {x q : Str} {sg : Scope} {g CS : Addr} {cdg : Value} {p1 p2 p3 p4 p5 p6 p7 p8 p9 p10 p11 p12 p13 p14 p15 : Pos} {k1 k2 k3 k4 : Nat}
    (h0 : sg.names.lookup ("call" : Str) = some .local) (h1 : sg.names.lookup ("act" : Str) = some .local) (h2 : sg.names.lookup ("caught" : Str) = some .local) (hge : sg.names.lookup ("UseError" : Str) = some .globalImplicit) (hme : X.mg "UseError" = some (.ref CS)) :
    LamX.GivesTo X ["call", "act", "caught"] x sg g cdg [.Try [.Assign [.Name "act" p1] (.Call (.Name "call" p2) [] [] p3) p4] [.ExceptHandler (some (.Name "UseError" p5)) (some "caught") [.Return (some (.Tuple [.Name "caught" p6, .Constant .none k1 p7] k2 p8)) p9] p10] [] [] p11,
      .Return (some (.Tuple [.Constant .none k3 p12, .Name "act" p13] k4 p14)) p15] "call" q (TTcaught X.K CS) := by
  intro f c' s H Q tl act hc h
  have nd : (["call", "act", "caught"] : List Str).Nodup := by decide +kernel
  have hgl : Gl (cxOf C8.CX0 X.prog X.w X.K X.mg X.base ["call", "act", "caught"] x sg g cdg X.A X.stack s H C8.E0).nox "UseError" := hge
  have v1 : Vis sg "act" := .inl h1
  have v2 : Vis sg "caught" := .inl h2
  refine ⟨_, pss_cons (ps_try_keep (X := (cxOf C8.CX0 X.prog X.w X.K X.mg X.base ["call", "act", "caught"] x sg g cdg X.A X.stack s H C8.E0).nox) (c := .ref CS) (i := 2)
      (tb := fun W D σ H => ∃ Ech : XK, (∀ cls d σ' H', Ech cls d H' → W cls d σ' H') ∧ σ[0]? = some (some (.ref f)) ∧ H c' = some (LamX.CodeO c' q) ∧ tl Ech H (fun v H' => D.nx (σ.set 1 (some v)) H'))
      rfl rfl rfl nd rfl h2 ⟨hgl, by decide, .inl hme⟩ (fun W pn xe tk _ => ?_) (fun a oe cls d pn _ _ => pss_one (ps_ret (pe_tup (pa_cons (pv 2 rfl v2) (pa_cons pe_non pa_nil))))))
      (pss_one (ps_ret (pe_tup (pa_cons pe_non (pa_cons (pv 1 rfl v1) pa_nil))))), ?_⟩
  · refine ⟨fun pins s' σ H' D I h' => ?_⟩
    obtain ⟨Ech, hW, e1, e2, e3⟩ := h'
    have hp := act W pn xe Ech p2 p3 tk hW
    have hq := pss_one (ps_set (i := 1) (pos := p4) (pos' := p1) (X := (cxOf C8.CX0 X.prog X.w X.K X.mg X.base ["call", "act", "caught"] x sg g cdg X.A X.stack s H C8.E0).tr pn xe) nd rfl (.inl h1) hp)
    exact hq.run pins s' σ H' D I ⟨e1, e2, e3⟩
  · refine ⟨fun cls d H' => PySem.W.exmOne X.K cls (.ref CS) = some true ∧ ∀ a t, H' a = none → H' t = none → t ≠ a → Q (.ref t) (upd (upd H' t (.tup [.ref a, .non])) a (exv a cls d)), fun cls d σ' H' ⟨m, k⟩ => ⟨m, fun a ha hl => ?_⟩, rfl, hc, ?_⟩
    · refine ⟨.ref a, List.getElem?_set_self (by rw [hl]; show 2 < 3; decide), (by show 2 ≤ sizeLine; decide), fun t ht n6 => k a t ha ht fun z => ?_⟩
      rw [z, upd_same] at n6
      cases n6
    · have e : (fun (v : V) (H' : Hp) => tRet (tTup (tCons (tC .non) (tCons (tVar 1) tNil))) { nx := fun _ H' => Q .non H', rt := Q } ((L2.start ["call", "act", "caught"] [V.ref f]).set 1 (some v)) H') = fun v H' => ∀ t, H' t = none → Q (.ref t) (upd H' t (.tup [.non, v])) :=
        funext fun v => funext fun H' => propext ⟨fun r => by
          obtain ⟨v', e1, _, k⟩ := r
          cases e1
          exact k, fun k => ⟨v, rfl, (by show 2 ≤ sizeLine; decide), k⟩⟩
      exact Eq.mp (congrArg (fun R => tl _ H R) e.symm) h
end

/-! ### what is asked of a kept exception -/
/-- the class D of an exception, as isinstance asks it -/
structure XcC (K : PySem.W.Frag) (D : Addr) : Prop extends ExcC K D where
  no : ∀ f : Str, f = "value" → PySem.W.findIn K (.ref D) f = some none
section
variable {X : Cx} {pins : List (Addr × Obj)} {σ : L2.St} {H : Hp} {s : Shared}
theorem exv_inst {a D dd : Addr} {fs : List (Str × V)} (I : Inv X pins σ H s) (e : H a = some (exv a (.ref D) (some dd))) (ed : H dd = some (.xd fs)) :
    ∃ ob od, PySem.W.InstAt s.heap a ob D (some od) ∧ ∀ n : Str, ∃ m : Option Value, PySem.W.lookIn n od = some m ∧ RelO (fs.lookup n) m := by
  obtain ⟨ob, fv, h1, h2, h3, h4⟩ := exv_at I.hok e
  have hx : ObjOk X.prog X.w H s.heap dd (.xd fs) := I.hok dd _ ed
  obtain ⟨mA, hns, hr⟩ := hx
  obtain ⟨od, ho, hl⟩ := lookIn_ns hns
  exact ⟨ob, od, ⟨h1, h2, by unfold PySem.W.notCls; rw [h4] <;> rfl, by rw [h3]; exact ho⟩, fun n => ⟨mA n, hl n, hr n⟩⟩
/-- an own exception that is kept, or any value whose class the layer knows -/
def TyV (K : PySem.W.Frag) (H : Hp) (x : V) (t : Value) : Prop := TyX K H x t ∨ ∃ (a D dd : Addr) (fs : List (Str × V)), x = .ref a ∧ t = .ref D ∧ H a = some (exv a (.ref D) (some dd)) ∧ H dd = some (.xd fs) ∧ ExcC K D
def rIsV (K : PySem.W.Frag) : List V → Hp → VK → Prop := fun xs H Q => ∃ (x c : V) (t u : Value) (b : Bool), xs = [x, c] ∧ ClsV c u ∧ TyV K H x t ∧ PySem.W.kitOne K t u = some b ∧ Q (.bl b) H
theorem call_isV : CallR X (.builtin "isinstance") (rIsV X.K) := by
  intro pins s σ H xs us Q I r h
  obtain ⟨x, c, t, u, b, rfl, k, ty, e, q⟩ := h
  rcases ty with ty | ⟨a, D, dd, fs, rfl, rfl, ea, ed, C⟩
  · exact call_isi pins s σ H _ us Q I r ⟨x, c, t, u, b, rfl, k, ty, e, q⟩
  · obtain ⟨u1, u2, rfl, r1, r2⟩ := vals2 r
    have e2 := k.eq r2
    subst e2
    obtain rfl : u1 = Value.ref a := r1
    obtain ⟨ob, od, J, _⟩ := exv_inst I ea ed
    obtain ⟨cd, hc, _⟩ := PySem.W.any_some C.hd
    exact PySem.W.kia_one (PySem.W.kitx_exc (by rw [hc]; rfl) C.hg C.hk C.hs C.ha C.hn C.ht C.hm) I.kIn J e (fun z => nomatch z) fun tk => ⟨.bl b, H, I.tok tk, rfl, q⟩
/-- e.n of a kept exception -/
def tXv (K : PySem.W.Frag) (n : Str) (te : TE) : TE := fun σ H Q => te σ H fun x H1 => ∃ (a C dd : Addr) (fs : List (Str × V)) (v : V), x = .ref a ∧ H1 a = some (exv a (.ref C) (some dd)) ∧ H1 dd = some (.xd fs) ∧ XfC K C ∧ PySem.W.findIn K (.ref C) n = some none ∧ fs.lookup n = some v ∧ Q v H1
theorem pe_xv {e : Expr} {te : TE} {pos : Pos} {n : Str} (he : PE X e te) (hb : attributeBase e n X.env (eval e X.env) = eval e X.env := by rfl) : PE X (.Attribute e n pos) (tXv X.K n te) := by
  refine ⟨fun pins s σ H Q I h => attr_of hb (thn (he.run pins s σ H _ I h) fun u s1 hh => ?_)⟩
  obtain ⟨x, H1, I1, rx, a, C, dd, fs, v, rfl, ea, ed, T, hno, l, q⟩ := hh
  obtain rfl : u = Value.ref a := rx
  obtain ⟨ob, od, J, hl⟩ := exv_inst I1 ea ed
  obtain ⟨m, hm, hr⟩ := hl n
  rw [l] at hr
  obtain ⟨u, hu, ru⟩ := RelO.some_of (v := v) (o := m) hr
  exact HandSPX.exc_get I1.kIn J T.ga T.gg T.exC (PySem.W.findObj_own T.hdC hno rfl (by rw [hm, hu])) (handed_of ru) ⟨v, H1, I1.tok _, ru, q⟩
end
end Xv
set_option Elab.async false
set_option linter.all false
set_option maxRecDepth 100000
set_option maxHeartbeats 4000000
/-! for i, x in enumerate(xs, start=k) -/
namespace Xe
open PySem PySem.Spec PyProof.Rows L2
def ItE (K : PySem.W.Frag) (k₀ : Int) (a : Addr) : It :=
  ⟨fun i H => ∃ (xs : List V) (x : V), SqL K H a xs ∧ xs[i]? = some x,
   fun i H v H' => ∃ T x, v = .ref T ∧ H T = none ∧ H' = upd H T (.tup [.int (k₀ + (i : Int)), x]) ∧ ∀ xs, SqL K H a xs → xs[i]? = some x,
   fun i H => ∃ xs : List V, SqL K H a xs ∧ xs.length ≤ i⟩
theorem turn_enumK {P : Program} {w : World} {K : PySem.W.Frag} {elts : List Expr} {kk : Nat} {tpos : Pos} (k₀ : Int) (a e it : Addr) :
    Turn P w K (.Tuple elts kk tpos) (ItE K k₀ a) [e, it] e (fun i h => (∃ old, IsEnum h e it (k₀ + (i : Int)) old) ∧ h.IsListIter it a i ∧ e ≠ it ∧ a ≠ it ∧ e ≠ a) where
  mem := List.mem_cons_self
  obj := by
    rintro i h ⟨⟨old, he⟩, ⟨o, ho, hc, hd⟩, _⟩ b hb
    rcases List.mem_cons.mp hb with rfl | hb
    · exact ⟨_, he, fun v q => nomatch q⟩
    · rw [List.mem_singleton.mp hb]
      exact ⟨o, ho, fun v q => by rw [hd] at q; cases q⟩
  keep := by
    rintro i h h' ⟨⟨old, he⟩, hi, n1, n2, n3⟩ k
    exact ⟨⟨old, k e List.mem_cons_self _ he⟩, hi.at fun o q => k it (by simp) o q, n1, n2, n3⟩
  item := by
    intro X hP hw hK hc i pins s σ H E I hf st hg
    subst hP hw hK
    obtain ⟨⟨old, he⟩, hit, n1, n2, n3⟩ := st
    obtain ⟨xs, x, hq, hx⟩ := hg
    obtain ⟨its, rv, p, hz⟩ := I.list hq
    obtain ⟨u, hu, ru⟩ := rv.get hx
    have le : e < s.heap.objs.size := Heap.lt_size he
    have li : it < s.heap.objs.size := by obtain ⟨_, q, _⟩ := hit; exact Heap.lt_size q
    have hn : X.A.in1.handled = none := I.ok.hd hc
    have hlt : i < its.toArray.size := by
      have := (List.getElem?_eq_some_iff.mp hu).1
      simpa using this
    have ne2 : e ∉ [it, a] := by simp [n1, n3]
    refine wpAny_pyNext_enum_itemC (Draws.list hn it a n2 its.toArray) he ⟨hit, p.isList⟩ hlt n1 ne2 fun y h' tk hy ho st' hT hsz hk => ⟨_, rfl, ?_⟩
    have ey : y = u := by
      have : its[i]? = some y := by simpa using hy
      rw [hu] at this
      exact (Option.some.inj this).symm
    subst ey
    refine wpAny_letOwnedTupleGo_enum (s := { s with heap := h', toks := tk + 1 }) ho fun h2 he2 sb => ?_
    have hT2 : h2.get? s.heap.objs.size = some { cls := .type "tuple", data := .seq #[.int (k₀ + (i : Int)) tk, y] } := (sb.2 _ (Nat.ne_of_gt le)).trans hT
    have new : ObjOk X.prog X.w (upd H s.heap.objs.size (.tup [.int (k₀ + (i : Int)), x])) h2 s.heap.objs.size (.tup [.int (k₀ + (i : Int)), x]) :=
      ⟨by show 2 ≤ sizeLine; decide, [.int (k₀ + (i : Int)) tk, y], .cons ⟨_, rfl⟩ (.cons ru .nil), ⟨_, hT2, rfl, _, rfl⟩⟩
    have I1 : Inv X pins σ (upd H s.heap.objs.size (.tup [.int (k₀ + (i : Int)), x])) { s with heap := h2, toks := tk + 1 } :=
      I.turnedNew (ch := [e, it]) (fun b ob hb q => (sb.2 b (fun z => hb (by simp [z]))).trans (hk b ob (fun z => hb (by simp [z])) (fun z => hb (by simp [z])) q)) hf (Nat.le_refl _) new
    refine ⟨.ref s.heap.objs.size, _, I1, rfl, ⟨_, x, rfl, I.hok.fresh (Nat.le_refl _), rfl, fun ys hy => by rw [I.list_inj hy hq]; exact hx⟩, ⟨⟨y, ?_⟩, st'.1.at fun o q => (sb.2 it (Ne.symm n1)).trans q, n1, n2, n3⟩, fun b hb => ?_⟩
    · have e1 : k₀ + ((i + 1 : Nat) : Int) = k₀ + (i : Int) + 1 := by omega
      rw [e1]; exact he2
    · have hb' : b < s.heap.objs.size := by
        rcases List.mem_cons.mp hb with z | z
        · rw [z]; exact le
        · rw [List.mem_singleton.mp z]; exact li
      rw [upd_ne (Nat.ne_of_lt hb')]
      exact (hf b hb).1
  done := by
    intro X hP hw hK hc i pins s σ H E I hf st hg
    subst hP hw hK
    obtain ⟨⟨old, he⟩, hit, n1, n2, n3⟩ := st
    obtain ⟨xs, hq, hx⟩ := hg
    obtain ⟨its, rv, p, hz⟩ := I.list hq
    obtain ⟨f0, f1, f2, f3, f4, f5⟩ := hf it (by simp)
    have hl := rv.length
    have hn : X.A.in1.handled = none := I.ok.hd hc
    have D : Draws X.prog X.w X.A.in1 it [it, a] i (fun _ _ => False) (fun j h => j = i ∧ h.IsListIter it a i ∧ h.IsList a its.toArray) := {
      live := fun _ _ st => let ⟨_, ⟨o, ho, _⟩, _⟩ := st; ⟨o, ho⟩
      frame := fun _ _ _ st hk => ⟨st.1, st.2.1.at fun o q => hk it (by simp) o q, st.2.2.at fun o q => hk a (by simp) o q⟩
      item := fun j _ _ _ hj st _ => absurd st.1 (Nat.ne_of_lt hj)
      done := fun s Q E st hE => wpAny_nextOf_list_end hn st.2.1 st.2.2 (by simp; omega) hE }
    exact wpAny_pyNext_enum_endD D he ⟨rfl, hit, p.isList⟩ fun h' eb => ⟨rfl, I.turned (t' := s.toks) (fun b o hb q => eb b o hb q) f0 f1 f3 f4 f5⟩
  self := fun A i s Q E st h => let ⟨⟨_, he⟩, _⟩ := st; wpAny_pyIter_enum he h
def iEnumK (K : PySem.W.Frag) (k₀ : Int) (ta : TA) : TI := fun σ H R => ta σ H fun vs H1 => ∃ a xs, vs = [.ref a] ∧ SqL K H1 a xs ∧ R (ItE K k₀ a) H1
theorem callWith_typeK {M : Model} {A : Around} {E : Value → Shared → Prop} {s : Shared} {env : Env} {pos : Pos} {T : String} {e : Expr} {rest : List Expr} {kws : List Keyword} {Q : Value → Shared → Prop} (hall : (backToKw pos (keywordEach kws env)).all (·.1.isSome) = true)
    (h : wpAny M A (spliced (backTo pos (starEach (e :: rest) env))) (fun vs s₁ => wpAny M A (evalAll ((backToKw pos (keywordEach kws env)).map (·.2)))
      (fun ks s₂ => wpAny M A (call (.type T) vs (((backToKw pos (keywordEach kws env)).filterMap (·.1)).zip ks)) Q E s₂) E s₁) E s)
    (hplain : ((backTo pos (starEach (e :: rest) env)).any (·.1) || (backToKw pos (keywordEach kws env)).any (·.1.isNone)) = false := by rfl) (he : starEach (e :: rest) env = (false, eval e env) :: starEach rest env := by rfl) :
    wpAny M A (callWith pos (.type T) [] (backTo pos (starEach (e :: rest) env)) (backToKw pos (keywordEach kws env))) Q E s :=
  PySem.W.callWith_of (P := fun _ => True) hplain (fun _ _ => ⟨.machine, .inr (.inl rfl), PySem.W.Looks.of_pure rfl⟩) (evalArgs_kw2 hall (thn h fun vs s1 h1 => thn h1 fun ks s2 h2 => ⟨trivial, h2⟩) he)
theorem pi_enumK {X : Cx} {e : Expr} {ta : TA} {p pos tpos kpos cpos : Pos} {elts : List Expr} {kk j : Nat} {k₀ : Int} (hg : Gl X "enumerate") (hm : X.mg "enumerate" = none) (hk : 0 ≤ k₀ ∧ k₀ < 1000) (ha : PA X [e] ta) (hs : starEach [e] X.env = [(false, eval e X.env)] := by rfl) :
    PI X (.Tuple elts kk tpos) (.Call (.Name "enumerate" p) [e] [⟨some "start", .Constant (.int k₀) j cpos, kpos⟩] pos) (iEnumK X.K k₀ ta) := by
  refine ⟨fun pins s σ H R I h => ?_⟩
  refine wpAny_Call_Name_kw (ld_blt I hg hm boot_enumerate (callWith_typeK rfl (thn (ha.run pos pins s σ H _ I h) fun us s1 ⟨vs, H1, I1, r1, q1⟩ => ?_) (by rw [hs]; rfl) hs))
  refine thn ((pk_cons (nm := some "start") (kpos := kpos) (pe_int (X := X) (i := k₀) (j := j) (pos := cpos)) pk_nil).run pos pins s1 σ H1 (fun zs H2 => zs = [.int k₀] ∧ H2 = H1) I1 ⟨rfl, rfl⟩) fun ks s2 ⟨zs, H2, I2, rz, ez, eH⟩ => ?_
  subst ez eH
  obtain ⟨a, xs, rfl, hq, q⟩ := q1
  obtain ⟨u, rfl, ru⟩ := vals1 r1
  obtain ⟨u2, rfl, t, rfl⟩ := vals1 rz
  cases ru
  obtain ⟨its, rv, p', hz⟩ := I2.list hq
  show wpAny _ _ (call (.type "enumerate") [.ref a] [(Str.ofString "start", .int k₀ t)]) _ _ _
  refine enum_begins_start (begins_list a its.toArray) p'.isList (by omega) (by omega) fun h' he hit hsz hkp => wpAny_pyIter_enum he ?_
  have I3 : Inv X pins σ H2 { s2 with heap := h' } := I2.kept (t' := s2.toks) hkp
  have la : a < s2.heap.objs.size := by obtain ⟨o, ho, _⟩ := p'.isList; exact Heap.lt_size ho
  refine ⟨s2.heap.objs.size + 1, [s2.heap.objs.size + 1, s2.heap.objs.size], _, _, H2, rfl, I3, turn_enumK k₀ a (s2.heap.objs.size + 1) s2.heap.objs.size, ⟨⟨.none, by rw [Int.natCast_zero, Int.add_zero]; exact he⟩, ⟨_, hit, rfl, rfl⟩, Nat.succ_ne_self _, Nat.ne_of_lt la, Nat.ne_of_gt (Nat.lt_succ_of_lt la)⟩, fun b hb => ?_, q⟩
  have hle : s2.heap.objs.size ≤ b := by
    rcases List.mem_cons.mp hb with z | z
    · rw [z]; exact Nat.le_add_right _ _
    · rw [List.mem_singleton.mp z]; exact Nat.le_refl _
  exact I2.fpOk hle (I2.hok.fresh hle)
/-- the walk of enumerate(list, start=k) as a for's reading -/
theorem for_enumK {K : PySem.W.Frag} {k₀ : Int} {a : Addr} {xs : List V} {g : TG} {tb : TS} {D : Ends} {σ : L2.St} {H : Hp} (Pv : Nat → L2.St → Hp → Prop) (h0 : Pv 0 σ H) (hl : ∀ i σ H, i ≤ xs.length → Pv i σ H → SqL K H a xs)
    (hs : ∀ i x σ H T, xs[i]? = some x → Pv i σ H → H T = none → g (.ref T) σ (upd H T (.tup [.int (k₀ + (i : Int)), x])) fun σ2 H2 => tb { nx := Pv (i + 1), rt := D.rt, bk := D.nx, ct := Pv (i + 1) } σ2 H2)
    (hd : ∀ σ H, Pv xs.length σ H → D.nx σ H) : ∃ W : Nat → Nat → L2.St → Hp → Prop, (∃ m, W 0 m σ H) ∧ ∀ i m σ H, W i m σ H →
      ((ItE K k₀ a).stop i H ∧ D.nx σ H) ∨ ((ItE K k₀ a).go i H ∧ ∃ Nx : L2.St → Hp → Prop, (∀ σ' H', Nx σ' H' → ∃ m', m' < m ∧ W (i + 1) m' σ' H') ∧ ∀ x H', (ItE K k₀ a).yld i H x H' → g x σ H' fun σ2 H2 => tb { D with nx := Nx, bk := D.nx, ct := Nx } σ2 H2) := by
  refine ⟨fun i m σ H => m + i = xs.length ∧ Pv i σ H, ⟨xs.length, Nat.add_zero _, h0⟩, ?_⟩
  rintro i m σ H ⟨hm, p⟩
  have q := hl i σ H (by omega) p
  cases m with
  | zero =>
    have e : i = xs.length := by omega
    subst e
    exact .inl ⟨⟨xs, q, Nat.le_refl _⟩, hd σ H p⟩
  | succ m =>
    have hlt : i < xs.length := by omega
    refine .inr ⟨⟨xs, xs[i], q, List.getElem?_eq_getElem hlt⟩, Pv (i + 1), fun σ' H' p' => ⟨m, Nat.lt_succ_self _, by omega, p'⟩, ?_⟩
    rintro _ _ ⟨T, x, rfl, hT, rfl, y⟩
    exact hs i x σ H T (y xs q) p hT
end Xe
set_option Elab.async false
set_option linter.all false
set_option maxRecDepth 100000
set_option maxHeartbeats 4000000
/-! a == b of two instances of one own class without an __eq__ -/
namespace Xq
open PySem PySem.Spec PyProof.Rows L2
section
variable {prog : Program} {w : World} {A : Around} {E : Value → Shared → Prop} {s : Shared} {K : PySem.W.Frag} {x y C : Addr} {ox oy : Obj} {od oe : Option Obj}
theorem no_tup {h : Heap} (I : PySem.W.InstAt h x ox C od) : ox.cls ≠ .type "tuple" := by rw [I.cls]; intro z; cases z
theorem call_eq1 {Q : Value → Shared → Prop} (X : K.In s.heap) (I : PySem.W.InstAt s.heap x ox C od) (hm : PySem.W.mroIn K C (.type "object") = some true) (hq : Q (.bool true) s) :
    wpAny (model prog w) A (call (.builtin "object.__eq__") [.ref x, .ref x]) Q E s :=
  wpAny_call (codeAny_call_builtin F.cmp_object.eq.plain F.cmpEntry_eq (PySem.W.check_slot F.cmpKind_eq F.cmpSplit_eq (I.type.andThen (PySem.W.looks_mroIn X hm)) (F.cmpArgs_eq _ _) (objEq_entry_same hq)))
theorem call_eq2 {Q : Value → Shared → Prop} (X : K.In s.heap) (I : PySem.W.InstAt s.heap x ox C od) (J : PySem.W.InstAt s.heap y oy C oe) (n : x ≠ y) (hm : PySem.W.mroIn K C (.type "object") = some true) (hq : Q .notImplemented s) :
    wpAny (model prog w) A (call (.builtin "object.__eq__") [.ref x, .ref y]) Q E s :=
  wpAny_call (codeAny_call_builtin F.cmp_object.eq.plain F.cmpEntry_eq (PySem.W.check_slot F.cmpKind_eq F.cmpSplit_eq (I.type.andThen (PySem.W.looks_mroIn X hm)) (F.cmpArgs_eq _ _) (objEq_entry_other n I.at_ J.at_ (no_tup I) hq)))
theorem rc_ins {Q : Value → Shared → Prop} (hu : A.units < cLine) (X : K.In s.heap) (I : PySem.W.InstAt s.heap x ox C od) (J : PySem.W.InstAt s.heap y oy C oe) (hm : PySem.W.mroIn K C (.type "object") = some true)
    (hs : PySem.W.findIn K (.ref C) "__eq__" = some (some (.builtin "object.__eq__"))) (hq : Q (.bool (decide (x = y))) s) : wpAny (model prog w) A (richCompare .Eq (.ref x) (.ref y)) Q E s := by
  have same : (Value.ref C != Value.ref C) = false := by simp
  by_cases n : x = y
  · subst n
    rw [decide_eq_true rfl] at hq
    have one : wpAny (model prog w) A (tryCompare (.ref x) "__eq__" (.ref x)) (fun r s' => r = some (.bool true) ∧ s' = s) E s := by
      unfold tryCompare
      exact wpAny_bind (HN.ifBound_objEq X I hs (call_eq1 X I hm (wpAny_pure ⟨rfl, rfl⟩)))
    simp only [richCompare, cmpInfo_Eq, oneThing_ref]
    refine wpAny_holding (wpAny_bind (wpAny_cRoomFor hu (wpAny_bind (I.type.here (wpAny_bind (I.type.here ?_))))))
    rw [same]
    refine wpAny_bind (wpAny_pure ?_)
    simp only [Bool.false_eq_true, if_false]
    refine wpAny_bind (wpAny_mono one (fun r s1 z => ?_) fun _ _ e => e)
    obtain ⟨rfl, rfl⟩ := z
    exact wpAny_pure hq
  · rw [decide_eq_false n] at hq
    have one : wpAny (model prog w) A (tryCompare (.ref x) "__eq__" (.ref y)) (fun r s' => r = none ∧ s' = s) E s := by
      unfold tryCompare
      exact wpAny_bind (HN.ifBound_objEq X I hs (call_eq2 X I J n hm (wpAny_pure ⟨rfl, rfl⟩)))
    have two : wpAny (model prog w) A (tryCompare (.ref y) "__eq__" (.ref x)) (fun r s' => r = none ∧ s' = s) E s := by
      unfold tryCompare
      exact wpAny_bind (HN.ifBound_objEq X J hs (call_eq2 X J I (Ne.symm n) hm (wpAny_pure ⟨rfl, rfl⟩)))
    simp only [richCompare, cmpInfo_Eq, oneThing_ref]
    refine wpAny_holding (wpAny_bind (wpAny_cRoomFor hu (wpAny_bind (I.type.here (wpAny_bind (J.type.here ?_))))))
    rw [same]
    refine wpAny_bind (wpAny_pure ?_)
    simp only [Bool.false_eq_true, if_false, Bool.not_false, if_true]
    refine wpAny_bind (wpAny_mono one (fun r s1 z => ?_) fun _ _ e => e)
    obtain ⟨rfl, rfl⟩ := z
    refine wpAny_bind (wpAny_mono two (fun r s1 z => ?_) fun _ _ e => e)
    obtain ⟨rfl, rfl⟩ := z
    exact wpAny_bind (wpAny_rule (wpAny_bind (wpAny_isSame_ref_other n I.at_ J.at_ (no_tup I) (wpAny_pure hq))))
end
/-- the class C has no == of its own -/
structure EqC (K : PySem.W.Frag) (C : Addr) : Prop where
  mro : PySem.W.mroIn K C (.type "object") = some true
  eq : PySem.W.findIn K (.ref C) "__eq__" = some (some (.builtin "object.__eq__"))
def rEqI (K : PySem.W.Frag) : R2 := fun x y H Q => ∃ (a b C dx dy : Addr) (fs gs : List (Str × V)), x = .ref a ∧ y = .ref b ∧ H a = some (.ins C dx fs) ∧ H b = some (.ins C dy gs) ∧ EqC K C ∧ Q (.bl (decide (a = b))) H
theorem op_eqI {X : Cx} (hu : X.A.units < cLine) : OpR X (compareOp .Eq) (rEqI X.K) := by
  intro pins s σ H x y v u Q I rx ry h
  obtain ⟨a, b, C, dx, dy, fs, gs, rfl, rfl, ha, hb, T, q⟩ := h
  cases rx
  cases ry
  obtain ⟨mA, O, _⟩ := ins_get I.hok ha
  obtain ⟨mB, O', _⟩ := ins_get I.hok hb
  obtain ⟨od, J, _⟩ := O.look
  obtain ⟨od', J', _⟩ := O'.look
  exact rc_ins hu I.kIn J J' T.mro T.eq ⟨.bl (decide (a = b)), H, I, rfl, q⟩
end Xq
set_option Elab.async false
set_option linter.all false
set_option maxRecDepth 100000
set_option maxHeartbeats 4000000
/-! {k: v for x in xs for y in ys}, keys tuples -/
namespace Xd
open PySem PySem.Spec PyProof.Rows L2
theorem turn_out (kx vx t0 i0 t1 i1 : Expr) (scope : Scope) (pos : Pos) (it acc : Value) (env : Env) :
    compTurn (.DictComp kx vx [⟨t0, i0, [], 0⟩, ⟨t1, i1, [], 0⟩] scope pos) 0 it acc env = (do
      standAt i0.pos
      match ← pyNext it with
      | none => pure (.done .next)
      | some v => do
        letOwnedTupleGo t0 it v
        assign t0 env v
        let x ← eval i1 env
        standAt i1.pos
        let z ← foldedSetIterable i1 env x
        let _ ← runOwn (.compStart (.DictComp kx vx [⟨t0, i0, [], 0⟩, ⟨t1, i1, [], 0⟩] scope pos) 1 (← holding [z] (pyIter z)) acc env) env
        again (.compLoop (.DictComp kx vx [⟨t0, i0, [], 0⟩, ⟨t1, i1, [], 0⟩] scope pos) 0 it acc env)) := by rfl
theorem turn_in (kx vx t0 i0 t1 i1 : Expr) (scope : Scope) (pos : Pos) (it : Value) (D : Addr) (env : Env) :
    compTurn (.DictComp kx vx [⟨t0, i0, [], 0⟩, ⟨t1, i1, [], 0⟩] scope pos) 1 it (.ref D) env = (do
      standAt i1.pos
      match ← pyNext it with
      | none => pure (.done .next)
      | some v => do
        letOwnedTupleGo t1 it v
        assign t1 env v
        (do
          let kv ← eval kx env
          let vv ← holding [kv] (eval vx env)
          standAt { kx.pos with endLine := vx.pos.endLine, endCol := vx.pos.endCol }
          holding [kv, vv] (dictSet D kv vv))
        again (.compLoop (.DictComp kx vx [⟨t0, i0, [], 0⟩, ⟨t1, i1, [], 0⟩] scope pos) 1 it (.ref D) env)) := by rfl
section
variable {prog : Program} {w : World} {A : Around} {R : Result → Shared → Prop} {s : Shared} {kx vx t0 i0 t1 i1 : Expr} {scope : Scope} {pos : Pos} {it acc : Value} {env : Env} {D : Addr}
theorem loop_out (hs : ∀ x, foldedSetIterable i1 env x = pure x) (I : Nat → Shared → Prop)
    (turn : ∀ n s, I n s → wpAny (model prog w) A (pyNext it) (fun r s₁ => (r = none → R (.ok .next) s₁) ∧ ∀ v, r = some v →
        wpAny (model prog w) A (letOwnedTupleGo t0 it v) (fun _ s₂ => wpAny (model prog w) A (assign t0 env v) (fun _ s₃ => wpAny (model prog w) A (eval i1 env) (fun x s₄ => wpAny (model prog w) A (pyIter x) (fun it1 s₅ =>
          codeAny (model prog w) A (.compStart (.DictComp kx vx [⟨t0, i0, [], 0⟩, ⟨t1, i1, [], 0⟩] scope pos) 1 it1 acc env) (fun r s' => (∃ f, r = .ok f) ∧ ∃ m, m < n ∧ I m s') s₅)
            (fun _ _ => False) s₄) (fun _ _ => False) s₃) (fun _ _ => False) s₂) (fun _ _ => False) s₁) (fun _ _ => False) s) (n : Nat) (h : I n s) :
    codeAny (model prog w) A (.compLoop (.DictComp kx vx [⟨t0, i0, [], 0⟩, ⟨t1, i1, [], 0⟩] scope pos) 0 it acc env) R s := by
  refine codeAny_loop rfl I (fun n s hI => ?_) n h
  show wpAny _ A ((compTurn (.DictComp kx vx [⟨t0, i0, [], 0⟩, ⟨t1, i1, [], 0⟩] scope pos) 0 it acc env).onRaise (fun x => do noteFrame x env; theTreesLotGoes x)) _ _ s
  refine wpAny_noted ?_
  rw [turn_out]
  refine wpAny_bind (wpAny_standAt (wpAny_bind (thnF (turn n s hI) fun r s₁ h₁ => ?_)))
  obtain ⟨hn, hv⟩ := h₁
  cases r with
  | none => exact wpAny_pure (hn rfl)
  | some v =>
    refine wpAny_bind (thnF (hv v rfl) fun _ s₂ h₂ => wpAny_bind (thnF h₂ fun _ s₃ h₃ => wpAny_bind (thnF h₃ fun x s₄ h₄ => ?_)))
    refine wpAny_bind (wpAny_standAt (wpAny_bind (wpAny_of_eq (hs x) (wpAny_bind (wpAny_holding (thnF h₄ fun it1 s₅ h₅ => ?_))))))
    refine wpAny_bind (wpAny_runOwn ?_)
    rw [Around.mark_none]
    refine codeAny_mono h₅ fun r s' hr => ?_
    obtain ⟨⟨f, rfl⟩, hr⟩ := hr
    first
      | exact wpAny_pure ⟨rfl, hr⟩
      | exact wpAny_bind (wpAny_pure (wpAny_pure ⟨rfl, hr⟩))
theorem loop_in (I : Nat → Shared → Prop)
    (turn : ∀ n s, I n s → wpAny (model prog w) A (pyNext it) (fun r s₁ => (r = none → R (.ok .next) s₁) ∧ ∀ v, r = some v →
        wpAny (model prog w) A (letOwnedTupleGo t1 it v) (fun _ s₂ => wpAny (model prog w) A (assign t1 env v) (fun _ s₃ => wpAny (model prog w) A (eval kx env) (fun kv s₄ => wpAny (model prog w) A (eval vx env) (fun vv s₅ =>
          wpAny (model prog w) A (dictSet D kv vv) (fun _ s₆ => ∃ m, m < n ∧ I m s₆) (fun _ _ => False) s₅) (fun _ _ => False) s₄) (fun _ _ => False) s₃) (fun _ _ => False) s₂) (fun _ _ => False) s₁) (fun _ _ => False) s) (n : Nat) (h : I n s) :
    codeAny (model prog w) A (.compLoop (.DictComp kx vx [⟨t0, i0, [], 0⟩, ⟨t1, i1, [], 0⟩] scope pos) 1 it (.ref D) env) R s := by
  refine codeAny_loop rfl I (fun n s hI => ?_) n h
  show wpAny _ A ((compTurn (.DictComp kx vx [⟨t0, i0, [], 0⟩, ⟨t1, i1, [], 0⟩] scope pos) 1 it (.ref D) env).onRaise (fun x => do noteFrame x env; theTreesLotGoes x)) _ _ s
  refine wpAny_noted ?_
  rw [turn_in]
  refine wpAny_bind (wpAny_standAt (wpAny_bind (thnF (turn n s hI) fun r s₁ h₁ => ?_)))
  obtain ⟨hn, hv⟩ := h₁
  cases r with
  | none => exact wpAny_pure (hn rfl)
  | some v =>
    refine wpAny_bind (thnF (hv v rfl) fun _ s₂ h₂ => wpAny_bind (thnF h₂ fun _ s₃ h₃ => wpAny_bind (wpAny_bind (thnF h₃ fun kv s₄ h₄ => ?_))))
    exact wpAny_bind (wpAny_holding (thnF h₄ fun vv s₅ h₅ => wpAny_bind (wpAny_standAt (wpAny_holding (thnF h₅ fun _ s₆ h₆ => wpAny_pure ⟨rfl, h₆⟩)))))
theorem start_in (h0 : codeAny (model prog w) A (.compLoop (.DictComp kx vx [⟨t0, i0, [], 0⟩, ⟨t1, i1, [], 0⟩] scope pos) 1 it acc env) R s)
    (h : wpAny (model prog w) A (pyIter it) (fun it' s' => codeAny (model prog w) A (.compLoop (.DictComp kx vx [⟨t0, i0, [], 0⟩, ⟨t1, i1, [], 0⟩] scope pos) 1 it' acc env) R s') (fun _ _ => False) s) :
    codeAny (model prog w) A (.compStart (.DictComp kx vx [⟨t0, i0, [], 0⟩, ⟨t1, i1, [], 0⟩] scope pos) 1 it acc env) R s := by
  refine codeAny_of_tree ?_
  show wpAny _ _ ((compStart (.DictComp kx vx [⟨t0, i0, [], 0⟩, ⟨t1, i1, [], 0⟩] scope pos) 1 it acc env).onRaise (fun x => do noteFrame x env; standAt theWindowsPlace)) _ _ s
  refine wpAny_notedAt ?_
  unfold compStart
  show wpAny _ _ (ask >>= _) _ _ s
  refine wpAny_bind (wpAny_askSetting (wpAny_ite ?_))
  split
  · first
      | exact wpAny_bind (wpAny_pure (wpAny_pure (And.intro rfl h0)))
      | exact wpAny_pure (And.intro rfl h0)
  · have go : ∀ {E : Value → Shared → Prop}, wpAny (model prog w) A (do standAt i1.pos; again (.compLoop (.DictComp kx vx [⟨t0, i0, [], 0⟩, ⟨t1, i1, [], 0⟩] scope pos) 1 (← pyIter it) acc env)) (fun fin s' => match fin with
          | .done f => R (.ok f) s'
          | .again c' => c'.quiet = true ∧ codeAny (model prog w) A c' R s') E s := wpAny_bind (wpAny_standAt (wpAny_bind (thnF h fun it' s' h' => wpAny_pure (And.intro rfl h'))))
    first
      | exact wpAny_bind (wpAny_rule go)
      | exact wpAny_bind (wpAny_rule (wpAny_bind (wpAny_standAt (wpAny_bind (thnF h fun it' s' h' => wpAny_pure (And.intro rfl h'))))))
end

section
variable {X : Cx} {pins : List (Addr × Obj)} {σ : L2.St} {H : Hp} {s : Shared}
theorem set_tup {E : Value → Shared → Prop} {D b : Addr} {kvs : List (List Key × V)} {k : List Key} {v : V} {r : Value} {Q : Unit → Shared → Prop} (hu : X.A.units < cLine) (I : Inv X pins σ H s) (hD : H D = some (.dT kvs)) (hb : H b = some (.tup (k.map kV))) (hz : kvs.length < sizeLine)
    (rv : RelV v r) (h : ∀ s', Inv X pins σ (upd H D (.dT (putK kvs k v))) s' → Q () s') : wpAny (model X.prog X.w) X.A (dictSet D (.ref b) r) Q E s := by
  obtain ⟨z, hd, xs, rel, dd⟩ := dt_of I.hok hD
  have hx : xs.length ≤ sizeLine := by rw [← Paired.length rel]; exact z
  have hl : (putK kvs k v).length ≤ sizeLine := by have := length_putK kvs k v; omega
  refine wpAny_dictSet_heap (hsz := hx) hu (key_of I.hok hb) dd fun h' dd' hs => h _ ?_
  obtain ⟨q, es, ep, hq, h2, h3, h4, _, h5⟩ := dd'
  refine d_write I (by rw [hD]; exact True.intro) hs ⟨q, hq⟩ ⟨hl, hd, _, (rel.put k hb rv).keeps fun c ys ec => ?_, q, es, ep, hq, h2, h3, h4, h5⟩
  rw [upd_ne (ne_of ec hD (fun z => nomatch z))]
  exact ec
end
def tDc2 (wi : TI) (g : TG) (wi1 : TI) (g1 : TG) (tk tv : TE) (vs vs1 : List Nat) : TE := fun σ H Q => wi σ H fun J H1 => ∀ D, H1 D = none → ∃ W : Nat → Nat → Hp → Prop, (∃ m, W 0 m (upd H1 D (.dT []))) ∧ ∀ i m H, W i m H →
  (J.stop i H ∧ Q (.ref D) H) ∨ (J.go i H ∧ ∃ Nx : Hp → Prop, (∀ H', Nx H' → ∃ m', m' < m ∧ W (i + 1) m' H') ∧ ∀ x H', J.yld i H x H' → g x (wipe σ vs) H' fun σ2 H2 => wipe σ2 vs = wipe σ vs ∧
    wi1 σ2 H2 fun J1 H3 => ∃ W1 : Nat → Nat → Hp → Prop, (∃ m, W1 0 m H3) ∧ ∀ j k H, W1 j k H → (J1.stop j H ∧ Nx H) ∨ (J1.go j H ∧ ∃ Nx1 : Hp → Prop, (∀ H', Nx1 H' → ∃ k', k' < k ∧ W1 (j + 1) k' H') ∧
      ∀ y H', J1.yld j H y H' → g1 y (wipe σ2 vs1) H' fun σ3 H4 => wipe σ3 vs1 = wipe σ2 vs1 ∧ tk σ3 H4 fun ky H5 => tv σ3 H5 fun z H6 => ∃ (b : Addr) (key : List Key) (kvs : List (List Key × V)), ky = .ref b ∧ H6 b = some (.tup (key.map kV)) ∧
        H6 D = some (.dT kvs) ∧ kvs.length < sizeLine ∧ Nx1 (upd H6 D (.dT (putK kvs key z)))))
section
variable {X : Cx}
theorem pe_dc2 {kx vx t0 i0 t1 i1 : Expr} {scope : Scope} {own : List (Str × Nat)} {vs1 : List Nat} {pos : Pos} {wi wi1 : TI} {g g1 : TG} {tk tv : TE} (hc : X.calm = true) (hu : X.A.units < cLine) (hN : X.N.Nodup) (hi : PI X t0 i0 wi) (ok : BlkOk X.N X.env.scope scope own) (hv : ∀ i ∈ vs1, i ∈ own.map (·.2))
    (hg : ∀ (s : Shared) (H : Hp) (C : Addr) (cl : List (Str × Addr)) (fp : List Addr), PG (X.blk s H scope (compEnvC scope cl C X.env) fp) t0 g)
    (hi1 : ∀ (s : Shared) (H : Hp) (C : Addr) (cl : List (Str × Addr)) (fp : List Addr), PI (X.blk s H scope (compEnvC scope cl C X.env) fp) t1 i1 wi1)
    (hg1 : ∀ (s : Shared) (H : Hp) (C : Addr) (cl : List (Str × Addr)) (fp : List Addr), PG (X.blk s H scope (compEnvC scope cl C X.env) fp) t1 g1)
    (hk : ∀ (s : Shared) (H : Hp) (C : Addr) (cl : List (Str × Addr)) (fp : List Addr), PE (X.blk s H scope (compEnvC scope cl C X.env) fp) kx tk)
    (he : ∀ (s : Shared) (H : Hp) (C : Addr) (cl : List (Str × Addr)) (fp : List Addr), PE (X.blk s H scope (compEnvC scope cl C X.env) fp) vx tv)
    (hs : ∀ x, foldedSetIterable i0 X.env x = pure x := by intro _; rfl) (hs1 : ∀ env x, foldedSetIterable i1 env x = pure x := by intro _ _; rfl) :
    PE X (.DictComp kx vx [⟨t0, i0, [], 0⟩, ⟨t1, i1, [], 0⟩] scope pos) (tDc2 wi g wi1 g1 tk tv (own.map (·.2)) vs1) := by
  refine ⟨fun pins s σ H Q I h => ?_⟩
  rw [arm_eval_DictComp]
  have clo : ∀ y ∈ scope.names, y.2 = .free → ∃ c, X.env.cells.lookup y.1 = some c := fun y hy e => (ok.free y hy e).elim (fun k => I.ok.has _ (.inl k)) fun k => I.ok.has _ (.inr k)
  refine wpAny_comprehension_free rfl hs (closure_ok clo) ok.kind (fun y hy e => by rw [ok.uniq y hy, e]) (thn (hi.run pins s σ H _ I h) fun xv s1 hx => thn hx fun itv s2 h2 => ?_)
  obtain ⟨it, fp, tn, J, H2, rfl, I2, T, st2, f2, q⟩ := h2
  refine wpAny_newObj_type (newEnv_comp ?_)
  have hDn : H2 s2.heap.objs.size = none := I2.hok.fresh (Nat.le_refl _)
  obtain ⟨W, ⟨m0, w0⟩, turn⟩ := q _ hDn
  have I3 : Inv X pins σ (upd H2 s2.heap.objs.size (.dT [])) { s2 with heap := s2.heap.push { cls := .type "dict", data := .dict #[] } } :=
    I2.laid (t' := s2.toks) (fun b o e => Heap.get?_push_of_some _ e) (Nat.le_refl _) (dt_empty s2.heap I2.big)
  generalize eD : s2.heap.objs.size = D at *
  generalize e3 : ({ s2 with heap := s2.heap.push { cls := .type "dict", data := .dict #[] } } : Shared) = s3 at *
  have h3 : s3.heap = s2.heap.push { cls := .type "dict", data := .dict #[] } := by rw [← e3]
  have at2 : ∀ b ∈ fp, b < D := fun b hb => by
    obtain ⟨o, e, _⟩ := T.obj _ _ st2 b hb
    rw [← eD]
    exact Heap.lt_size e
  have f3 : ∀ b ∈ fp, FpOk X pins (upd H2 D (.dT [])) b ∧ b < s3.heap.objs.size := fun b hb => by
    refine ⟨⟨by rw [upd_ne (Nat.ne_of_lt (at2 b hb))]; exact (f2 b hb).1, (f2 b hb).2⟩, ?_⟩
    rw [h3, Heap.size_push, eD]
    exact Nat.lt_succ_of_lt (at2 b hb)
  have st3 : tn 0 s3.heap := T.keep _ _ _ st2 fun b _ o e => by rw [h3]; exact Heap.get?_push_of_some _ e
  have I4 := block_start I3 ok hN f3
  have pg := hg s3 (upd H2 D (.dT [])) s3.heap.objs.size (cellsFrom (s3.heap.objs.size + 1) scope.names (cloFrom X.env.cells scope.names [])) fp
  have pi1 := hi1 s3 (upd H2 D (.dT [])) s3.heap.objs.size (cellsFrom (s3.heap.objs.size + 1) scope.names (cloFrom X.env.cells scope.names [])) fp
  have pg1 := hg1 s3 (upd H2 D (.dT [])) s3.heap.objs.size (cellsFrom (s3.heap.objs.size + 1) scope.names (cloFrom X.env.cells scope.names [])) fp
  have pk := hk s3 (upd H2 D (.dT [])) s3.heap.objs.size (cellsFrom (s3.heap.objs.size + 1) scope.names (cloFrom X.env.cells scope.names [])) fp
  have pv := he s3 (upd H2 D (.dT [])) s3.heap.objs.size (cellsFrom (s3.heap.objs.size + 1) scope.names (cloFrom X.env.cells scope.names [])) fp
  have nfp : ∀ b ∈ fp, (upd H2 D (.dT [])) b = none := fun b hb => (f3 b hb).1.1
  show codeAny _ _ (.compStart _ 0 (.ref it) (.ref D) (compEnvC scope (cellsFrom (s3.heap.objs.size + 1) scope.names (cloFrom X.env.cells scope.names [])) s3.heap.objs.size X.env)) (compPost (model X.prog X.w) X.A X.xe _ _ (.ref D) s3.heap.objs.size) { s3 with heap := pushCells (s3.heap.push { cls := .type "dict", data := .dict #[] }) scope.names }
  generalize hce : compEnvC scope (cellsFrom (s3.heap.objs.size + 1) scope.names (cloFrom X.env.cells scope.names [])) s3.heap.objs.size X.env = ce at I4 pg pi1 pg1 pk pv ⊢
  have cL : ce.locals = s3.heap.objs.size := by subst hce; rfl
  generalize eH : upd H2 D (.dT []) = H3 at I3 I4 pg pi1 pg1 pk pv w0 nfp f3
  generalize e4 : ({ s3 with heap := pushCells (s3.heap.push { cls := .type "dict", data := .dict #[] }) scope.names } : Shared) = s4 at I4 ⊢
  have st4 : tn 0 s4.heap := T.keep _ _ _ st3 fun b _ o e => by rw [← e4]; exact pushCells_keeps _ _ _ _ (Heap.get?_push_of_some _ e)
  have stat : ∀ {σ' : L2.St} {H' : Hp} {s' : Shared}, Inv (X.blk s3 H3 scope ce fp) [] σ' H' s' → (∀ b ∈ fp, H' b = none) → ∀ b ∈ fp, FpOk (X.blk s3 H3 scope ce fp) [] H' b := fun I' hn b hb =>
    ⟨hn b hb, (I'.ok.exf b hb).1, I'.ok.exfs b hb, .inl hb, fun x c e => (I'.ok.exf b hb).2 x c e, fun p hp => absurd (show p ∈ ([] : List (Addr × Obj)) ++ [] from hp) (by simp)⟩
  have fin0 : ∀ {n i : Nat} {Nx : Hp → Prop} {s7 : Shared}, (∀ H', Nx H' → ∃ m', m' < n ∧ W (i + 1) m' H') → tn (i + 1) s7.heap → ∀ {τ : L2.St} {s' : Shared} {H' : Hp}, Inv (X.blk s3 H3 scope ce fp) ([] ++ pinsAt fp s7.heap) τ H' s' → (wipe σ (own.map (·.2))).length = τ.length →
      (∀ (j : Nat) v, (wipe σ (own.map (·.2)))[j]? = some (some v) → τ[j]? = some (some v)) → Nx H' → ∃ m, m < n ∧ ∃ i H', Inv (X.blk s3 H3 scope ce fp) [] (wipe σ (own.map (·.2))) H' s' ∧ tn i s'.heap ∧ (∀ b ∈ fp, H' b = none) ∧ W i m H' := by
    intro n i Nx s7 hNx st7 τ s' H' I' hl hk nx
    obtain ⟨m', hm, w'⟩ := hNx H' nx
    have held : ∀ b ∈ fp, ∀ o, s7.heap.get? b = some o → s'.heap.get? b = some o ∧ H' b = none := fun b hb o e =>
      let z := I'.pin (b, o) (List.mem_append_right _ (List.mem_append_right _ (mem_pinsAt hb e)))
      ⟨z.1, z.2.1⟩
    refine ⟨m', hm, i + 1, H', (I'.unpinned (pins := [])).weak hl hk, T.keep _ _ _ st7 fun b hb o e => (held b hb o e).1, fun b hb => ?_, w'⟩
    obtain ⟨o, e, _⟩ := T.obj _ _ st7 b hb
    exact (held b hb o e).2
  have loop : codeAny (model X.prog X.w) X.A (.compLoop (.DictComp kx vx [⟨t0, i0, [], 0⟩, ⟨t1, i1, [], 0⟩] scope pos) 0 (.ref it) (.ref D) ce) (compPost (model X.prog X.w) X.A X.xe none (EP X pins σ Q) (.ref D) s3.heap.objs.size) s4 := by
    refine loop_out (hs1 ce) (fun n s' => ∃ i H', Inv (X.blk s3 H3 scope ce fp) [] (wipe σ (own.map (·.2))) H' s' ∧ tn i s'.heap ∧ (∀ b ∈ fp, H' b = none) ∧ W i n H') ?_ m0 ⟨0, H3, I4, st4, nfp, w0⟩
    rintro n s5 ⟨i, H5, I5, st5, n5, w5⟩
    rcases turn i n H5 w5 with ⟨stop, qq⟩ | ⟨go, Nx, hNx, step⟩
    · refine thnF (T.done (X.blk s3 H3 scope ce fp) rfl rfl rfl hc i [] s5 _ H5 (fun _ _ => False) I5 (stat I5 n5) st5 stop) fun r s6 ⟨hr, I6⟩ => ⟨fun _ => ?_, fun v z => by rw [hr] at z; cases z⟩
      have I7 : Inv X pins σ H5 s6 := I3.call' (ch := fp) I6.os I6.base I6.hok I6.bare fun b hb => ⟨(f3 b hb).1.2.2.2.1, (f3 b hb).1.2.1, (f3 b hb).1.2.2.2.2.1, (f3 b hb).1.2.2.2.2.2⟩
      have nC : H5 s3.heap.objs.size = none := by
        have z : H5 ce.locals = none := I6.free
        rw [cL] at z
        exact z
      obtain ⟨m, hn, _⟩ := I6.loc
      have hn : s6.heap.Ns ce.locals m := hn
      rw [cL] at hn
      obtain ⟨g0, g1, g2, g3, g4, g5⟩ := I3.fpOk (Nat.le_refl _) nC
      exact ⟨m, hn, fun h'' sb => ⟨.ref D, H5, I7.turned (t' := s6.toks) (fun b o hb e => (sb.2 b hb).trans e) g0 g1 g3 g4 g5, rfl, qq⟩⟩
    · refine thnF (T.item (X.blk s3 H3 scope ce fp) rfl rfl rfl hc i [] s5 _ H5 (fun _ _ => False) I5 (stat I5 n5) st5 go) fun r s6 ⟨u, hr, h6⟩ => ⟨fun z => (by rw [hr] at z; cases z), fun v z => ?_⟩
      rw [hr] at z
      cases z
      refine thnF h6 fun _ s7 ⟨x, H7, I7, r7, y7, st7, n7⟩ => ?_
      have I7' := I7.pinned (stat I7 n7) (T.obj _ _ st7)
      refine thnF (pg.run _ s7 _ H7 x u _ I7' r7 (step x H7 y7)) fun _ s8 ⟨σ8, H8, I8, hw8, q8⟩ => ?_
      have hl8 : (wipe σ (own.map (·.2))).length = σ8.length := by rw [← hw8, wipe_length]
      have hk9 : ∀ (j : Nat) v, (wipe σ (own.map (·.2)))[j]? = some (some v) → (wipe σ8 vs1)[j]? = some (some v) := fun j v e => by
        rw [← hw8] at e
        obtain ⟨e1, e2⟩ := wipe_some e
        rw [wipe_out fun z => e2 (hv j z)]
        exact e1
      refine thnF (pi1.run _ s8 σ8 H8 _ I8 q8) fun xv s9 hx => thnF hx fun itv s10 h10 => ?_
      obtain ⟨it1, fp1, tn1, J1, H10, rfl, I10, T1, st10, f10, W1, ⟨m1, w1⟩, turn1⟩ := h10
      have stat1 : ∀ {H' : Hp}, (∀ b ∈ fp1, H' b = none) → ∀ b ∈ fp1, FpOk (X.blk s3 H3 scope ce fp) ([] ++ pinsAt fp s7.heap) H' b := fun hn b hb => ⟨hn b hb, (f10 b hb).2⟩
      have inner : codeAny (model X.prog X.w) X.A (.compLoop (.DictComp kx vx [⟨t0, i0, [], 0⟩, ⟨t1, i1, [], 0⟩] scope pos) 1 (.ref it1) (.ref D) ce)
          (fun r s' => (∃ f, r = .ok f) ∧ ∃ m, m < n ∧ ∃ i H', Inv (X.blk s3 H3 scope ce fp) [] (wipe σ (own.map (·.2))) H' s' ∧ tn i s'.heap ∧ (∀ b ∈ fp, H' b = none) ∧ W i m H') s10 := by
        refine loop_in (fun k s' => ∃ j H', Inv (X.blk s3 H3 scope ce fp) ([] ++ pinsAt fp s7.heap) (wipe σ8 vs1) H' s' ∧ tn1 j s'.heap ∧ (∀ b ∈ fp1, H' b = none) ∧ W1 j k H') ?_ m1 ⟨0, H10, I10.weak (wipe_length _ _) (fun j v e => (wipe_some e).1), st10, fun b hb => (f10 b hb).1, w1⟩
        rintro k s12 ⟨j, H12, I12, st12, n12, w12⟩
        rcases turn1 j k H12 w12 with ⟨stop1, nx1⟩ | ⟨go1, Nx1, hNx1, step1⟩
        · refine thnF (T1.done (X.blk s3 H3 scope ce fp) rfl rfl rfl hc j _ s12 (wipe σ8 vs1) H12 (fun _ _ => False) I12 (stat1 n12) st12 stop1) fun r s13 hrI => ?_
          obtain ⟨hr, I13⟩ := hrI
          refine ⟨fun _ => ?_, fun v z => ?_⟩
          · exact ⟨⟨_, rfl⟩, fin0 hNx st7 I13 (hl8.trans (wipe_length σ8 vs1).symm) hk9 nx1⟩
          · rw [hr] at z
            cases z
        · refine thnF (T1.item (X.blk s3 H3 scope ce fp) rfl rfl rfl hc j _ s12 (wipe σ8 vs1) H12 (fun _ _ => False) I12 (stat1 n12) st12 go1) fun r s13 ⟨u1, hr, h13⟩ => ⟨fun z => (by rw [hr] at z; cases z), fun v z => ?_⟩
          rw [hr] at z
          cases z
          refine thnF h13 fun _ s14 ⟨x1, H14, I14, r14, y14, st14, n14⟩ => ?_
          have I14' := I14.pinned (stat1 n14) (T1.obj _ _ st14)
          refine thnF (pg1.run _ s14 (wipe σ8 vs1) H14 x1 u1 _ I14' r14 (step1 x1 H14 y14)) fun _ s15 ⟨σ15, H15, I15, hw15, q15⟩ => ?_
          refine thnF (pk.run _ s15 σ15 H15 _ I15 q15) fun kv s16 ⟨yk, H16, I16, r16, q16⟩ => ?_
          refine thnF (pv.run _ s16 σ15 H16 _ I16 q16) fun vv s17 ⟨yv, H17, I17, r17, b, key, kvs, ek, hb, hD, hz, nx⟩ => ?_
          subst ek
          obtain rfl : kv = Value.ref b := r16
          refine set_tup (X := X.blk s3 H3 scope ce fp) hu I17 hD hb hz r17 fun s18 I18 => ?_
          obtain ⟨m', hm, w'⟩ := hNx1 _ nx
          have held : ∀ c ∈ fp1, ∀ o, s14.heap.get? c = some o → s18.heap.get? c = some o ∧ (upd H17 D (.dT (putK kvs key yv))) c = none := fun c hc o e =>
            let z := I18.pin (c, o) (List.mem_append_right _ (List.mem_append_right _ (mem_pinsAt hc e)))
            ⟨z.1, z.2.1⟩
          refine ⟨m', hm, j + 1, _, I18.unpinned.weak (by rw [← hw15, wipe_length]) (fun j v e => by rw [← hw15] at e; exact (wipe_some e).1), T1.keep _ _ _ st14 fun c hc o e => (held c hc o e).1, fun c hc => ?_, w'⟩
          obtain ⟨o, e, _⟩ := T1.obj _ _ st14 c hc
          exact (held c hc o e).2
      exact start_in inner (T1.self X.A 0 _ _ _ st10 inner)
  exact codeAny_compStart_dict loop (T.self X.A 0 _ _ _ st4 loop)
end
end Xd
set_option Elab.async false
set_option linter.all false
set_option maxRecDepth 100000
set_option maxHeartbeats 4000000
/-! a written dict with keys that are texts: in, not in, get; text * int -/
namespace Xk
open PySem PySem.Spec PyProof.Rows L2
/-- the written dict at p has, by a text, what g tells -/
def KHas (K : PySem.W.Frag) (w : World) (p : Addr) (g : Str → Option V) : Prop :=
  ∃ es n, K.lookup p = some ⟨.type "dict", none, .dict es n, #[]⟩ ∧ PySem.W.KeysLit w.params es.toList ∧ (p == sysModules) = false ∧ ∀ z, RelO (g z) (findBy Value.isStrOf es z)
theorem isSome_of {o : Option V} {u : Option Value} (r : RelO o u) : u.isSome = o.isSome := by
  cases o <;> cases u <;> first | rfl | exact r.elim
section
variable {X : Cx}
def rInK (K : PySem.W.Frag) (w : World) (neg : Bool) : R2 := fun x y H Q => ∃ (z : Str) (p : Addr) (g : Str → Option V), x = .str z ∧ y = .ref p ∧ KHas K w p g ∧ Q (.bl (if neg then !(g z).isSome else (g z).isSome)) H
theorem op_notInK : OpR X (compareOp .NotIn) (rInK X.K X.w true) := by
  intro pins s σ H x y v u Q I rx ry h
  obtain ⟨z, p, g, rfl, rfl, ⟨es, n, hl, hk, hd, hg⟩, q⟩ := h
  obtain ⟨t, rfl⟩ := rx
  obtain rfl : u = Value.ref p := ry
  refine wpAny_notIn_of (strKind_is X.prog X.w z t) hd (PySem.W.mapOf_K (prog := X.prog) (w := X.w) I.kIn hl hk) ⟨_, H, I.tok _, ?_, q⟩
  show Value.bool _ = Value.bool _
  rw [isSome_of (hg z)]
  rfl
theorem op_inK : OpR X (compareOp .In) (rInK X.K X.w false) := by
  intro pins s σ H x y v u Q I rx ry h
  obtain ⟨z, p, g, rfl, rfl, ⟨es, n, hl, hk, hd, hg⟩, q⟩ := h
  obtain ⟨t, rfl⟩ := rx
  obtain rfl : u = Value.ref p := ry
  refine wpAny_in_of (strKind_is X.prog X.w z t) hd (PySem.W.mapOf_K (prog := X.prog) (w := X.w) I.kIn hl hk) ⟨_, H, I.tok _, ?_, q⟩
  show Value.bool _ = Value.bool _
  rw [isSome_of (hg z)]
  rfl
def tKGet (K : PySem.W.Frag) (w : World) (to : TE) (ta : TA) : TE := fun σ H Q => to σ H fun x H1 => ∃ (p : Addr) (g : Str → Option V), x = .ref p ∧ KHas K w p g ∧ ta σ H1 fun vs H2 => ∃ (z : Str) (d : V), vs = [.str z, d] ∧ Q ((g z).getD d) H2
theorem pe_kget {o e f : Expr} {to : TE} {ta : TA} {apos cpos : Pos} (ho : PE X o to) (ha : PA X [e, f] ta)
    (hbase : attributeBase o "get" X.env (eval o X.env) = eval o X.env := by rfl)
    (hfew : ((backTo cpos (starEach [e, f] X.env)).all (fun x => !x.1) && (backToKw cpos (keywordEach [] X.env)).all (fun x => x.1.isSome)
      && decide ([e, f].length + ([] : List Keyword).length + (if ([] : List Keyword).isEmpty then 0 else 1) < 30)) = true := by rfl)
    (hline : (apos.endLine == cpos.line) = true := by rfl) (hs : starEach [e, f] X.env = [(false, eval e X.env), (false, eval f X.env)] := by rfl) :
    PE X (.Call (.Attribute o "get" apos) [e, f] [] cpos) (tKGet X.K X.w to ta) := by
  refine ⟨fun pins s σ H Q I h => wpAny_Call_method_late hbase hfew hline rfl (thn (ho.run pins s σ H _ I h) fun v s1 ⟨x, H1, I1, r1, q1⟩ => ?_)⟩
  obtain ⟨p, g, rfl, ⟨es, n, hl, hk, hd, hg⟩, q1⟩ := q1
  obtain rfl : v = Value.ref p := r1
  have hm := PySem.W.mapOf_K (prog := X.prog) (w := X.w) I1.kIn hl hk
  refine ⟨"dict", _, PySem.F.plainAttrs_dict, PySem.F.slot_dict_get, PySem.F.type_dict_get, hm.typeIs, fun a e => ⟨_, I1.kIn _ _ (by cases e; exact hl), rfl⟩, ?_⟩
  have hA := ha.run cpos pins s1 σ H1 _ I1 q1
  rw [hs] at hA ⊢
  refine Calls.callWith_builtin rfl (Calls.evalArgs_plain (thn hA fun us s2 ⟨vs, H2, I2, r2, z, d, ev, q2⟩ => ?_))
  subst ev
  obtain ⟨u1, u2, rfl, ru1, ru2⟩ := vals2 r2
  obtain ⟨t, rfl⟩ := ru1
  have hm2 := PySem.W.mapOf_K (prog := X.prog) (w := X.w) I2.kIn hl hk
  refine call_meetsIn PySem.F.slot_dict_get hm2.typeIs PySem.F.entry_dict_get (PySem.F.args_dict_get_3 _ _ _) (meets_dict_get_default (strKind X.prog X.w) p (strKind_is X.prog X.w z t) hd u2) ⟨_, hm2, _, H2, I2.tok _, ?_, q2⟩
  have r := hg z
  cases e1 : g z with
  | none =>
    rw [e1] at r
    rw [RelO.none_of r]
    exact ru2
  | some y =>
    rw [e1] at r
    obtain ⟨u, hu, ru⟩ := RelO.some_of r
    rw [hu]
    exact ru
/-- text * int -/
def rRepS : R2 := fun x y H Q => ∃ (z : Str) (n : Int), x = .str z ∧ y = .int n ∧ z.length ≤ 1000 ∧ 0 ≤ n ∧ n ≤ 1000 ∧ Q (.str (Txt.mul z n)) H
theorem op_repS : OpR X (binaryOp .Mult) rRepS := by
  intro pins s σ H x y v u Q I rx ry h
  obtain ⟨z, n, rfl, rfl, hz, h0, h1, q⟩ := h
  obtain ⟨t, rfl⟩ := rx
  obtain ⟨t2, rfl⟩ := ry
  refine PySem.SB.mul ⟨?_, fun h2 _ h3 => ?_, fun h2 _ => ?_⟩ fun t' k => ⟨.str (Txt.mul z n), H, I.tok k, ⟨t', rfl⟩, q⟩
  · simp; omega
  · have h4 : (1000 : Int) ≤ (2 ^ 63 - 1) / n := Int.le_ediv_of_mul_le (by omega) (by omega)
    omega
  · have h5 : z.length * n.toNat ≤ 1000 * 1000 := Nat.mul_le_mul hz (by omega)
    have h6 : ¬ z.length * n.toNat > sizeLine := by rw [sizeLine_eq]; omega
    exact decide_eq_false h6
end
end Xk
set_option Elab.async false
set_option linter.all false
set_option maxRecDepth 100000
set_option maxHeartbeats 4000000
/-! what comprehensions and tests evaluate to -/
namespace Xl
open PySem PySem.Spec PyProof.Rows L2 Evl
section
variable {K : PySem.W.Frag} {σ : L2.St} {H : Hp} {te ta tb tl : TE} {t : TT}
theorem given_all (n : Nat) (v : Nat → V) : given n (fun _ => true) v = (List.range n).map v := by
  unfold given
  rw [List.filter_eq_self.mpr (fun _ _ => rfl)]
/-- over a text, no tests -/
theorem el_lcS {x : Str} {j : Nat} {vs : List Nat} (v : Nat → V) (h : Ev tl σ H (.str x)) (hz : x.cps.size ≤ 40000) (hw : ∀ y, wipe ((wipe σ vs).set j (some y)) vs = wipe σ vs)
    (he : ∀ (i c : Nat) H1, Ex H H1 → x.cps[i]? = some c → Ev te ((wipe σ vs).set j (some (.str ⟨#[c]⟩))) H1 (v i)) : EvL (tLc (iStr tl) (gName j) tYes te vs) σ H ((List.range x.cps.size).map v) := fun H0 e Q q => h H0 e _ fun H1 e1 => ⟨x, rfl, fun Dl hD =>
  lc_it (walk_str (z := x)) (Cw H1 (fun _ => true) v Dl) ⟨hD, Ex.new hD, upd_same⟩ (fun _ _ _ _ => trivial) (fun i y H' H'' hi p hy => by
    obtain ⟨rfl, c, hc, rfl⟩ := hy
    exact ⟨hw _, cw_turn p (by omega) (fun H3 _ Q k => k H3 (Ex.refl _)) (fun _ => he i c H1 (e.trans e1) hc)⟩)
    (fun H' p => q Dl H' (fresh_back e1 p.1) (e1.trans p.2.1) (by rw [← given_all]; exact p.2.2))⟩
theorem ev_all {bs : List Bool} (h : EvL te σ H (bs.map V.bl)) : Ev (tCB (rAll K) (tCons te tNil)) σ H (.bl (bs.all id)) := fun H1 e Q q =>
  h H1 e _ fun p H2 hp e2 hx => ⟨p, bs, rfl, sq_of hx, q H2 e2⟩
theorem ev_any {bs : List Bool} (h : EvL te σ H (bs.map V.bl)) : Ev (tCB (rAny K) (tCons te tNil)) σ H (.bl (bs.any id)) := fun H1 e Q q =>
  h H1 e _ fun p H2 hp e2 hx => ⟨p, bs, rfl, sq_of hx, q H2 e2⟩
theorem ev_lenS {x : Str} (h : Ev te σ H (.str x)) (hz : x.length ≤ sizeLine) : Ev (tCB (fun xs H Q => ∃ z, xs = [.str z] ∧ z.length ≤ sizeLine ∧ Q (.int z.length) H) (tCons te tNil)) σ H (.int x.length) := fun H1 e Q q =>
  h H1 e _ fun H2 e2 => ⟨x, rfl, hz, q H2 e2⟩
theorem rv_sign {c : Nat} {z : Str} : RV (fun x y H Q => ∃ (c : Nat) (z : Str), x = .str ⟨#[c]⟩ ∧ y = .str z ∧ Q (.bl (decide (c ∈ z.cps.toList))) H) (.str ⟨#[c]⟩) (.str z) H (.bl (decide (c ∈ z.cps.toList))) := fun H1 _ _ q => ⟨c, z, rfl, rfl, q H1 (Ex.refl H1)⟩
theorem rv_signN {c : Nat} {z : Str} : RV (fun x y H Q => ∃ (c : Nat) (z : Str), x = .str ⟨#[c]⟩ ∧ y = .str z ∧ Q (.bl (!decide (c ∈ z.cps.toList))) H) (.str ⟨#[c]⟩) (.str z) H (.bl (!decide (c ∈ z.cps.toList))) := fun H1 _ _ q => ⟨c, z, rfl, rfl, q H1 (Ex.refl H1)⟩
theorem ev_chain {r r' : R2} {tc : TE} {x y z : V} {p q : Bool} (ha : Ev ta σ H x) (hb : Ev tb σ H y) (h1 : RV r x y H (.bl p)) (hc : p = true → Ev tc σ H z) (h2 : p = true → RV r' y z H (.bl q)) : Ev (tChain r r' ta tb tc) σ H (.bl (p && q)) := fun H1 e Q k =>
  ha H1 e _ fun H2 e2 => hb H2 (e.trans e2) _ fun H3 e3 => h1 H3 ((e.trans e2).trans e3) _ fun H4 e4 => ⟨p, rfl, by
    have e14 := (e2.trans e3).trans e4
    cases p with
    | true =>
      show tc σ H4 _
      exact hc rfl H4 (e.trans e14) _ fun H5 e5 => h2 rfl H5 ((e.trans e14).trans e5) _ fun H6 e6 => k H6 ((e14.trans e5).trans e6)
    | false => exact k H4 e14⟩
theorem et_T {b : Bool} (h : Ev te σ H (.bl b)) : EvT (tTest te) σ H b := et_test h
end
end Xl
set_option Elab.async false
set_option linter.all false
set_option maxRecDepth 100000
/-! The program's reading of texts, as plain functions over lists of codes. -/
namespace Mi
abbrev Wd := List Nat
def cd (s : String) : Wd := s.toList.map Char.toNat
def LET : Wd := [97, 98, 99, 100, 101, 102, 103, 104, 105, 106, 107, 108, 109, 110, 111, 112, 113, 114, 115, 116, 117, 118, 119, 120, 121, 122]
def FIG : Wd := [48, 49, 50, 51, 52, 53, 54, 55, 56, 57]
def isLet (c : Nat) : Bool := decide (c ∈ LET)
def isFig (c : Nat) : Bool := decide (c ∈ FIG)
def ARI : List (Wd × Nat) := [([102, 117, 110], 1), ([99, 97, 108, 108], 2), ([108, 101, 116], 2), ([112, 108, 117, 115], 2), ([108, 101, 115, 115], 2), ([112, 105, 99, 107], 3), ([112, 97, 105, 114], 2), ([102, 105, 114, 115, 116], 1), ([115, 101, 99, 111, 110, 100], 1)]
def ari (w : Wd) : Option Nat := ARI.lookup w
def nameOk (w : Wd) : Bool := (decide (1 ≤ w.length) && decide (w.length ≤ 8) && isLet (w.getD 0 0)) && w.all fun c => isLet c || isFig c
def digs (w : Wd) : Wd := match w with
  | 45 :: r => r
  | _ => w
def val (d : Wd) : Nat := d.foldl (fun a c => 10 * a + (c - 48)) 0
def intOf (w : Wd) : Option Int :=
  if digs w = [] ∨ (digs w).all isFig = false then none
  else if (digs w).getD 0 0 = 48 ∧ w ≠ [48] then none
  else some (if w.head? = some 45 then -(val (digs w) : Int) else (val (digs w) : Int))
def written (w : Wd) : Bool := decide (w.length ≤ 3) && match intOf w with
  | none => false
  | some n => decide (-99 ≤ n) && decide (n ≤ 99)
def okFree (w : Wd) : Bool := nameOk w && (ari w).isNone && !(decide (w = [112, 97, 114, 116]) || decide (w = [114, 117, 110]))
structure Nd where
  at_ : Nat
  sign : Wd
  kind : Wd
  named : Wd
  outer : Option Nat
  within : List Nat
  binder : Option Nat
  level : Nat
  deriving DecidableEq, Inhabited
def mkNd (at_ : Nat) (sign : Wd) (outer : Option Nat) (level : Nat) : Nd := ⟨at_, sign, sign, [], outer, [], none, level⟩
def isBind (w : Wd) : Bool := decide (w = [102, 117, 110]) || decide (w = [108, 101, 116])
def readNd (words : List Wd) (at_ : Nat) (outer : Option Nat) (lvl : Nat) : Option Nd :=
  let sign := words.getD at_ []
  let nd := mkNd at_ sign outer lvl
  if 30 < lvl then none
  else if (ari sign).isSome then
    if isBind sign then
      let nm := if at_ + 1 < words.length then words.getD (at_ + 1) [] else []
      if okFree nm then some { nd with named := nm } else none
    else some nd
  else if okFree sign then some { nd with kind := [110, 97, 109, 101] }
  else if written sign then some { nd with kind := [110, 117, 109, 98, 101, 114] } else none
def nth (ns : List Nd) (i : Nat) : Nd := ns.getD i default
def full (ns : List Nd) (i : Nat) : Bool := decide ((nth ns i).within.length = (ari (nth ns i).kind).getD 0)
def popM (ns : List Nd) : Nat → List Nat → List Nat
  | 0, wt => wt
  | f + 1, wt => match wt.getLast? with
    | none => wt
    | some i => if full ns i then popM ns f wt.dropLast else wt
def addIn (ns : List Nd) (wt : List Nat) (i : Nat) : List Nd := match wt.getLast? with
  | none => ns
  | some o => ns.set o { nth ns o with within := (nth ns o).within ++ [i] }
def hangM (ns : List Nd) (wt : List Nat) (i : Nat) : List Nd × List Nat := (addIn ns wt i, popM (addIn ns wt i) (wt.length + 1) (wt ++ [i]))
def lvlOf (ns : List Nd) (o : Option Nat) : Nat := match o with
  | none => 1
  | some o => (nth ns o).level + 1
def loopM (words : List Wd) : Nat → List Nd → List Nat → Nat → Option (List Nd × List Nat)
  | 0, ns, wt, _ => some (ns, wt)
  | f + 1, ns, wt, at_ =>
    if at_ < words.length then
      match readNd words at_ wt.getLast? (lvlOf ns wt.getLast?) with
      | none => none
      | some nd => if ns ≠ [] ∧ wt.getLast? = none then none else
        loopM words f (hangM (ns ++ [nd]) wt ns.length).1 (hangM (ns ++ [nd]) wt ns.length).2 (if nd.named ≠ [] then at_ + 2 else at_ + 1)
    else some (ns, wt)
def climb (ns : List Nd) (sign : Wd) : Nat → Nat → Option Nat → Option Nat
  | 0, _, _ => none
  | _ + 1, _, none => none
  | f + 1, below, some a => if (nth ns a).named = sign ∧ (nth ns a).within.getLast? = some below then some a else climb ns sign f a (nth ns a).outer
def bindM (ns : List Nd) (i : Nat) : Nd := match climb ns (nth ns i).sign (i + 1) i (nth ns i).outer with
  | some a => { nth ns i with binder := some a }
  | none => { nth ns i with kind := [112, 97, 114, 116] }
def bindTo : Nat → List Nd → List Nd
  | 0, ns => ns
  | k + 1, ns => let ms := bindTo k ns; if (nth ms k).kind = [110, 97, 109, 101] then ms.set k (bindM ms k) else ms
def readExpr (words : List Wd) (start : Nat) : Option (List Nd) := match loopM words (words.length + 1) [] [] start with
  | none => none
  | some (ns, wt) => if wt ≠ [] ∨ ns = [] then none else some (bindTo ns.length ns)
structure Ln where
  name : Wd
  told : Wd
  nodes : List Nd
  deriving DecidableEq, Inhabited
def Ln.names (l : Ln) : List Wd := (l.nodes.filter fun n => decide (n.named ≠ [])).map (·.named)
def readLine (told : Wd) : Option Ln :=
  let words := TL.spl [32] 0 [] told
  if 120 < words.length then none
  else if words.getD 0 [] = [114, 117, 110] then (readExpr words 1).map fun ns => ⟨[114, 117, 110], told, ns⟩
  else if words.getD 0 [] = [112, 97, 114, 116] ∧ 2 < words.length ∧ okFree (words.getD 1 []) = true ∧ words.getD 2 [] = [102, 117, 110] then (readExpr words 2).map fun ns => ⟨words.getD 1 [], told, ns⟩
  else none
def canStand (l : Ln) (ahead : List Ln) : Bool :=
  let names := ahead.map (·.name)
  if [114, 117, 110] ∈ names ∨ l.name ∈ names then false
  else if l.name ≠ [114, 117, 110] ∧ names.length = 12 then false
  else if l.name ∈ l.names ∨ (ahead.any fun o => decide (l.name ∈ o.names)) = true then false
  else !(l.names.any fun n => decide (n ∈ names))
def linesM : List Wd → List Ln → Except Nat (List Ln)
  | [], ls => .ok ls
  | told :: r, ls => match readLine told with
    | none => .error (ls.length + 1)
    | some l => if canStand l ls then linesM r (ls ++ [l]) else .error (ls.length + 1)
def known (names : List Wd) (l : Ln) : Bool := l.nodes.all fun n => !decide (n.kind = [112, 97, 114, 116]) || decide (n.sign ∈ names)
def firstUnknown (names : List Wd) : Nat → List Ln → Option Nat
  | _, [] => none
  | k, l :: r => if known names l then firstUnknown names (k + 1) r else some k
def readProg (text : Wd) : Except Nat (List Ln) := match linesM (TL.spl [10] 0 [] text) [] with
  | .error e => .error e
  | .ok ls => if (ls.getLastD default).name ≠ [114, 117, 110] then .error (ls.length + 1)
    else match firstUnknown (ls.dropLast.map (·.name)) 1 ls with
      | some k => .error k
      | none => .ok ls
def errOf (s : String) : Option Nat := match readProg (cd s) with
  | .error e => some e
  | .ok _ => none
end Mi
set_option Elab.async false
set_option linter.all false
set_option maxRecDepth 100000
namespace Mi
open PySem SX
def chk (x : Wd) : Bool := match intOf x with
  | none => true
  | some n => decide (intText? (S x) = some n)
theorem chk_tab : (FIG.all fun a => (chk [a] && chk [45, a]) && FIG.all fun b => (chk [a, b] && chk [45, a, b]) && FIG.all fun c => chk [a, b, c]) = true := by decide +kernel
theorem fig_not45 : (45 : Nat) ∉ FIG := by decide
theorem mem_fig {c : Nat} (h : isFig c = true) : c ∈ FIG := of_decide_eq_true h
theorem chk_all {x : Wd} (h : x.length ≤ 3) (hd : (digs x).all isFig = true) (hn : digs x ≠ []) : chk x = true := by
  have t := chk_tab
  rw [List.all_eq_true] at t
  have t1 : ∀ a ∈ FIG, (chk [a] = true ∧ chk [45, a] = true) ∧ ∀ b ∈ FIG, (chk [a, b] = true ∧ chk [45, a, b] = true) ∧ ∀ c ∈ FIG, chk [a, b, c] = true := fun a ha => by
    have z := t a ha
    simp only [Bool.and_eq_true, List.all_eq_true] at z
    exact z
  match x, h, hd, hn with
  | [], _, _, hn => exact absurd rfl hn
  | [a], _, hd, hn =>
    by_cases e : a = 45
    · subst e; exact absurd rfl hn
    · have z : digs [a] = [a] := by unfold digs; split <;> simp_all
      rw [z] at hd
      exact (t1 a (mem_fig (by simpa using hd))).1.1
  | [a, b], _, hd, hn =>
    by_cases e : a = 45
    · subst e
      have hd : [b].all isFig = true := hd
      exact (t1 b (mem_fig (by simpa using hd))).1.2
    · have z : digs [a, b] = [a, b] := by unfold digs; split <;> simp_all
      rw [z] at hd
      simp only [List.all_cons, List.all_nil, Bool.and_true, Bool.and_eq_true] at hd
      exact ((t1 a (mem_fig hd.1)).2 b (mem_fig hd.2)).1.1
  | [a, b, c], _, hd, hn =>
    by_cases e : a = 45
    · subst e
      have hd : [b, c].all isFig = true := hd
      simp only [List.all_cons, List.all_nil, Bool.and_true, Bool.and_eq_true] at hd
      exact ((t1 b (mem_fig hd.1)).2 c (mem_fig hd.2)).1.2
    · have z : digs [a, b, c] = [a, b, c] := by unfold digs; split <;> simp_all
      rw [z] at hd
      simp only [List.all_cons, List.all_nil, Bool.and_true, Bool.and_eq_true] at hd
      exact ((t1 a (mem_fig hd.1)).2 b (mem_fig hd.2.1)).2 c (mem_fig hd.2.2)
theorem int_text {x : Wd} {n : Int} (h : x.length ≤ 3) (e : intOf x = some n) : intText? (S x) = some n := by
  have e' := e
  unfold intOf at e'
  split at e'
  · cases e'
  · rename_i h1
    have h2 : ¬ digs x = [] := fun z => h1 (.inl z)
    have h3 : (digs x).all isFig = true := by
      cases z : (digs x).all isFig with
      | true => rfl
      | false => exact absurd (.inr z) h1
    have c := chk_all h h3 h2
    unfold chk at c
    rw [e] at c
    exact of_decide_eq_true c
theorem prefix_S (x : Wd) : Txt.removeprefix (S x) (S [45]) = S (digs x) := by
  unfold Txt.removeprefix
  match x with
  | [] => decide +kernel
  | a :: r =>
    have hs : Builtin.Str.subAt (S (a :: r)) (S [45]) 0 = decide (a = 45) := by
      unfold Builtin.Str.subAt
      have e : (S (a :: r)).cps.extract 0 (0 + (S [45]).length) = #[a] := by
        rw [S_len]
        simp
      rw [e]
      by_cases h : a = 45
      · subst h; decide
      · rw [decide_eq_false h]
        simpa using h
    rw [hs]
    by_cases h : a = 45
    · subst h
      have z : digs (45 :: r) = r := rfl
      rw [z, decide_eq_true rfl, if_pos rfl]
      unfold Txt.affix
      have l1 : (S (45 :: r)).length = r.length + 1 := by rw [S_len]; rfl
      have l2 : (S [45]).length = 1 := rfl
      show (if ((S (45 :: r)).length - (S [45]).length == (S (45 :: r)).length) = true then S (45 :: r) else Builtin.Str.strSub (S (45 :: r)) (S [45]).length (S (45 :: r)).length) = S r
      rw [l1, l2, if_neg (by simp)]
      unfold Builtin.Str.strSub
      simp
    · rw [decide_eq_false h]
      have z : digs (a :: r) = a :: r := by unfold digs; split <;> simp_all
      rw [z]
      rfl
end Mi
set_option Elab.async false
set_option linter.all false
set_option maxRecDepth 100000
set_option maxHeartbeats 4000000
namespace K5
open PySem PySem.Spec PyProof.Rows L2 Evl Xl SX Mi
def top (i : Nat) : Stmt := PySem.Challenge.pw_uselots_k05_what_is_no_program.main.body.getD i (.Pass ⟨0, 0, 0, 0⟩)
/-- the names of the module that the program asks for -/
structure Txt (K : PySem.W.Frag) (w : World) (mg : Str → Option Value) : Prop where
  type_ : mg "type" = none
  str_ : mg "str" = none
  len_ : mg "len" = none
  all_ : mg "all" = none
  any_ : mg "any" = none
  int_ : mg "int" = none
  enum_ : mg "enumerate" = none
  tuple_ : mg "tuple" = none
  list_ : mg "list" = none
  isi_ : mg "isinstance" = none
  let_ : ∃ u, mg "LETTERS" = some u ∧ RelV (.str (S LET)) u
  fig_ : ∃ u, mg "FIGURES" = some u ∧ RelV (.str (S FIG)) u
section
variable {P : Program} {w : World} {K : PySem.W.Frag} {mg : Str → Option Value} {base : Heap} {f : Addr} {fd : FuncData}
/-! ### is_text -/
def spIsText (K : PySem.W.Frag) : Sp := fun vs H Q _ => ∃ x T, vs = [x] ∧ TyB K H x T ∧ Q (.bl (decide (T = "str"))) H
theorem scT : FnScope ["value"] ["value"] (C8.fnScope (top 9)) := C8.fnScope_by (by decide +kernel)
theorem ok_is_text (F : C8.Def K mg "is_text" (top 9) f fd) (b : Binds K fd ["value"] []) (T : Txt K w mg) : C8.Cal P w K mg base 1 "is_text" (spIsText K) [] := by
  refine C8.cal0 F b .nil scT (fun vs H Q E h => by obtain ⟨x, t, rfl, _⟩ := h; rfl) (fun cdv A outer s H vs Q E hr h => ?_)
  obtain ⟨x, t, rfl, ht, k⟩ := h
  refine ⟨_, pss_one (ps_ret (pe_cmpR op_isTy (pe_callTy call_type1 (by rfl) T.type_ (by decide +kernel) (pa_cons (pv 0) pa_nil)) (pe_bltn (v := .ty "str") (by rfl) T.str_ (by decide +kernel) rfl) (nomark _))), ?_⟩
  exact ⟨_, rfl, _, _, rfl, ht, _, _, rfl, rfl, k⟩
/-! ### is_name -/
def spName : Sp := fun vs H Q _ => ∃ x : Wd, vs = [.str (S x)] ∧ x.length ≤ 9000 ∧ ∀ H', Ex H H' → Q (.bl (nameOk x)) H'
theorem scN : FnScope ["word", "sign"] ["word"] (C8.fnScope (top 12)) := C8.fnScope_by (by decide +kernel)
theorem ok_is_name (F : C8.Def K mg "is_name" (top 12) f fd) (b : Binds K fd ["word"] []) (T : Txt K w mg) : C8.Cal P w K mg base 1 "is_name" spName [] := by
  refine C8.cal0 F b .nil scN (fun vs H Q E h => by obtain ⟨x, rfl, _⟩ := h; rfl) (fun cdv A outer s H vs Q E hr h => ?_)
  obtain ⟨x, rfl, hx, k⟩ := h
  refine ⟨_, pss_cons (ps_if (pw_or (pt_not (pt_chain op_le op_le pe_int (pe_callB call_len_str (by rfl) T.len_ boot_len (pa_cons (pv 0) pa_nil)) pe_int))
        (pw_or1 (pt_cmpR op_notIn_sign (pe_ix ix_str (pv 0) pe_int (fun _ _ => rfl)) (C8.pe_gc (by rfl) T.let_) rfl))).pt (pss_one (ps_ret pe_bl)) pss_nil)
    (pss_one (ps_ret (pe_callB (cr_all rfl) (by rfl) T.all_ boot_all (pa_cons (pe_lc (own := [("sign", 1)]) (g := gName 1) (tt := tYes) rfl scN.nd (pi_str (pv 0)) (blkOk_by (N := ["word", "sign"]) (sc := C8.fnScope (top 12)) (by decide +kernel))
      (fun _ _ _ _ _ => pg_name (i := 1) scN.nd rfl (Or.inl rfl)) (fun _ _ _ _ _ => pts_nil)
      (fun _ _ _ _ _ => pe_or (pe_cmpR op_in_sign (pv 1) (C8.pe_gc (by rfl) T.let_) rfl) (pe_one (pe_cmpR op_in_sign (pv 1) (C8.pe_gc (by rfl) T.fig_) rfl)))) pa_nil)))), ?_⟩
  have v0 : ∀ {H1 : Hp}, Ev (tVar 0) (start ["word", "sign"] [V.str (S x)]) H1 (.str (S x)) := ev_var rfl
  have hl : (S x).length = x.length := S_len x
  have small : (S x).length ≤ sizeLine := by rw [hl, sizeLine_eq]; omega
  have len0 : ∀ {H1 : Hp}, Ev (tCB (fun xs H Q => ∃ z, xs = [.str z] ∧ z.length ≤ sizeLine ∧ Q (.int z.length) H) (tCons (tVar 0) tNil)) (start ["word", "sign"] [V.str (S x)]) H1 (.int (x.length : Int)) := ev_is (ev_lenS v0 small) (by rw [hl])
  refine q_when (b := !(decide ((1 : Int) ≤ (x.length : Int)) && decide ((x.length : Int) ≤ 8)) || !(isLet (x.getD 0 0))) (et_or (et_not (et_test (ev_chain ev_c len0 rv_I0 (fun _ => ev_c) fun _ => rv_I0))) fun hf => ?_) (fun hb H1 e1 => ?_) (fun hb H1 e1 => ?_)
  · match x, hf with
    | c :: r, _ => exact et_test (ev_op (ev_op v0 ev_c (rv_ixS (c := c) (by rw [hl]; omega) (atI_nat (xs := c :: r) (j := 0) rfl))) ev_c rv_signN)
  · have e : nameOk x = false := by
      unfold nameOk
      rw [Bool.or_eq_true] at hb
      rcases hb with hb | hb
      · have z : ¬ (1 ≤ x.length ∧ x.length ≤ 8) := fun h => by simp at hb; omega
        by_cases h1 : 1 ≤ x.length
        · have h8 : ¬ x.length ≤ 8 := fun h => z ⟨h1, h⟩
          simp [h8]
        · simp [h1]
      · have z : isLet (x.getD 0 0) = false := by simpa using hb
        rw [z]; simp
    rw [e] at k
    exact s_ret ev_c fun H2 e2 => k H2 (e1.trans e2)
  · have e : nameOk x = (x.map fun c => isLet c || isFig c).all id := by
      rw [Bool.or_eq_false_iff] at hb
      obtain ⟨h1, h2⟩ := hb
      have z1 : (decide (1 ≤ x.length) && decide (x.length ≤ 8)) = true := by simp at h1 ⊢; omega
      have z2 : isLet (x.getD 0 0) = true := by simpa using h2
      unfold nameOk
      rw [z1, z2]
      simp
    rw [e] at k
    refine s_ret (ev_all (bs := x.map fun c => isLet c || isFig c) ?_) fun H2 e2 => k H2 (e1.trans e2)
    have hs : (S x).cps.size = x.length := by simp
    have m : (x.map fun c => isLet c || isFig c).map V.bl = (List.range (S x).cps.size).map fun i => .bl (isLet (x.getD i 0) || isFig (x.getD i 0)) := by
      rw [hs]
      refine List.ext_getElem (by simp) fun i h1 h2 => ?_
      have hi : i < x.length := by simpa using h1
      simp [List.getD_eq_getElem?_getD, hi]
    rw [m]
    refine el_lcS (j := 1) _ v0 (by rw [hs]; omega) (fun y => rfl) fun i c H2 e2 hc => ?_
    have hc' : x.getD i 0 = c := by
      have : x[i]? = some c := by simpa using hc
      simp [List.getD_eq_getElem?_getD, this]
    rw [hc']
    exact ev_orV (ev_op (ev_var rfl) ev_c rv_sign) fun _ => ev_op (ev_var rfl) ev_c rv_sign
end
end K5
set_option Elab.async false
set_option linter.all false
set_option maxRecDepth 100000
set_option maxHeartbeats 4000000
namespace K5
open PySem PySem.Spec PyProof.Rows L2 Evl Xl SX Mi
section
variable {P : Program} {w : World} {K : PySem.W.Frag} {mg : Str → Option Value} {base : Heap} {f : Addr} {fd : FuncData}
def optI : Option Int → V
  | none => .non
  | some n => .int n
def spInt : Sp := fun vs H Q _ => ∃ x : Wd, vs = [.str (S x)] ∧ x.length ≤ 3 ∧ ∀ H', Ex H H' → Q (optI (intOf x)) H'
theorem scI : FnScope ["word", "digits", "sign"] ["word"] (C8.fnScope (top 13)) := C8.fnScope_by (by decide +kernel)
theorem S_eqc {a b : Wd} : (decide (V.str (S a) = V.str (S b))) = decide (a = b) := by
  by_cases h : a = b
  · subst h; simp
  · rw [decide_eq_false h]
    exact decide_eq_false fun z => h (S_inj (V.str.inj z))
theorem all_sign {x : Wd} {tl : TE} {σ : L2.St} {H : Hp} {te : TE} {j : Nat} {vs : List Nat} {K : PySem.W.Frag} (f : Nat → Bool) (hx : x.length ≤ 40000) (h : Ev tl σ H (.str (S x))) (hw : ∀ y, wipe ((wipe σ vs).set j (some y)) vs = wipe σ vs)
    (he : ∀ c H1, c ∈ x → Ev te ((wipe σ vs).set j (some (.str ⟨#[c]⟩))) H1 (.bl (f c))) : Ev (tCB (rAll K) (tCons (tLc (iStr tl) (gName j) tYes te vs) tNil)) σ H (.bl (x.all f)) := by
  have hs : (S x).cps.size = x.length := by simp
  have e : x.all f = (x.map f).all id := by simp
  rw [e]
  refine ev_all ?_
  have m : (x.map f).map V.bl = (List.range (S x).cps.size).map fun i => .bl (f (x.getD i 0)) := by
    rw [hs]
    refine List.ext_getElem (by simp) fun i h1 h2 => ?_
    have hi : i < x.length := by simpa using h1
    simp [List.getD_eq_getElem?_getD, hi]
  rw [m]
  refine el_lcS (j := j) _ h (by rw [hs]; omega) hw fun i c H2 e2 hc => ?_
  have hc1 : x[i]? = some c := by simpa using hc
  have hc' : x.getD i 0 = c := by simp [List.getD_eq_getElem?_getD, hc1]
  rw [hc']
  exact he c H2 (List.mem_of_getElem? hc1)
theorem ok_integer_of (F : C8.Def K mg "integer_of" (top 13) f fd) (b : Binds K fd ["word"] []) (T : Txt K w mg) : C8.Cal P w K mg base 1 "integer_of" spInt [] := by
  refine C8.cal0 F b .nil scI (fun vs H Q E h => by obtain ⟨x, rfl, _⟩ := h; rfl) (fun cdv A outer s H vs Q E hr h => ?_)
  obtain ⟨x, rfl, hx, k⟩ := h
  refine ⟨_, pss_cons (ps_set (i := 1) scI.nd rfl (Or.inl rfl) (pe_bm PySem.F.plainAttrs_str PySem.F.slot_str_removeprefix PySem.F.type_str_removeprefix mt_removeprefix (pv 0) (pa_cons pe_str pa_nil)))
    (pss_cons (ps_if (pw_or (pt_cmpR op_eq (pv 1) pe_str (nomark _))
        (pw_or1 (pt_not (pt_val (pe_callB (cr_all rfl) (by rfl) T.all_ boot_all (pa_cons (pe_lc (own := [("sign", 2)]) (g := gName 2) (tt := tYes) rfl scI.nd (pi_str (pv 1)) (blkOk_by (N := ["word", "digits", "sign"]) (sc := C8.fnScope (top 13)) (by decide +kernel))
          (fun _ _ _ _ _ => pg_name (i := 2) scI.nd rfl (Or.inl rfl)) (fun _ _ _ _ _ => pts_nil) (fun _ _ _ _ _ => pe_cmpR op_in_sign (pv 2) (C8.pe_gc (by rfl) T.fig_) rfl)) pa_nil)))))).pt (pss_one (ps_ret pe_non)) pss_nil)
    (pss_cons (ps_if (pw_and (pt_cmpR op_eq (pe_ix ix_str (pv 1) pe_int (fun _ _ => rfl)) pe_str (nomark _)) (pw_and1 (pt_cmpR op_ne (pv 0) pe_str (nomark _)))).pt (pss_one (ps_ret pe_non)) pss_nil)
    (pss_one (ps_ret (pe_callTy call_int_str (by rfl) T.int_ (by decide +kernel) (pa_cons (pv 0) pa_nil)))))), ?_⟩
  refine ⟨_, rfl, rfl, S x, S [45], rfl, rfl, by rw [S_len, sizeLine_eq]; omega, ?_⟩
  rw [prefix_S]
  have dl : (digs x).length ≤ 3 := by
    unfold digs
    split
    · simp at hx; omega
    · exact hx
  have v0 : ∀ {H1 : Hp}, Ev (tVar 0) ((start ["word", "digits", "sign"] [V.str (S x)]).set 1 (some (.str (S (digs x))))) H1 (.str (S x)) := ev_var rfl
  have v1 : ∀ {H1 : Hp}, Ev (tVar 1) ((start ["word", "digits", "sign"] [V.str (S x)]).set 1 (some (.str (S (digs x))))) H1 (.str (S (digs x))) := ev_var rfl
  have l0 : (Str.ofString "" : Str) = S [] := by decide
  have l1 : (Str.ofString "0" : Str) = S [48] := by decide
  refine q_when (b := decide (digs x = []) || !(digs x).all isFig) (et_or (et_is (et_test (ev_op v1 ev_c (rv_eq rfl))) (by rw [l0]; exact S_eqc)) fun _ => et_not (et_B (all_sign isFig (by omega) v1 (fun y => rfl) fun c H1 hc => ev_op (ev_var rfl) ev_c rv_sign))) (fun hb H1 e1 => ?_) (fun hb H1 e1 => ?_)
  · have e : intOf x = none := by
      unfold intOf
      rw [if_pos]
      simpa using hb
    rw [e] at k
    exact s_ret ev_c fun H2 e2 => k H2 (e1.trans e2)
  · have e0 : ¬ (digs x = [] ∨ (digs x).all isFig = false) := by simpa using hb
    obtain ⟨c, r, hcr⟩ : ∃ c r, digs x = c :: r := by
      cases h : digs x with
      | nil => exact absurd (.inl h) e0
      | cons c r => exact ⟨c, r, rfl⟩
    have g0 : (digs x).getD 0 0 = c := by rw [hcr]; rfl
    have dlen : (S (digs x)).length ≤ 100000 := by rw [S_len]; omega
    refine q_when (b := decide (c = 48) && !decide (x = [48])) (et_and (et_is (et_test (ev_op (x := .str ⟨#[c]⟩) (ev_op v1 ev_c (rv_ixS dlen (by rw [hcr]; exact atI_nat (xs := c :: r) (j := 0) rfl))) ev_c (rv_eq rfl))) (by rw [l1]; exact (S_eqc (a := [c]) (b := [48])).trans (by simp))) fun _ => et_is (et_test (ev_op v0 ev_c (rv_ne rfl))) (by rw [l1, S_eqc])) (fun hb2 H2 e2 => ?_) (fun hb2 H2 e2 => ?_)
    · have e : intOf x = none := by
        unfold intOf
        rw [if_neg e0, if_pos]
        rw [g0]
        simpa using hb2
      rw [e] at k
      exact s_ret ev_c fun H3 e3 => k H3 ((e1.trans e2).trans e3)
    · obtain ⟨n, e⟩ : ∃ n, intOf x = some n := by
        unfold intOf
        rw [if_neg e0, if_neg]
        · exact ⟨_, rfl⟩
        · rw [g0]
          simpa using hb2
      rw [e] at k
      exact s_ret (ev_cb (ea_cons v0 ea_nil) fun H3 e3 Q' q => ⟨S x, n, rfl, int_text hx e, by rw [S_len]; omega, q H3 (Ex.refl H3)⟩) fun H3 e3 => k H3 ((e1.trans e2).trans e3)
/-! ### is_free, is_written -/
def ariV (z : Str) : Option V := match ari z.cps.toList with
  | none => none
  | some n => some (.int (Int.ofNat n))
structure Txt2 (K : PySem.W.Frag) (w : World) (mg : Str → Option Value) : Prop extends Txt K w mg where
  ari_ : ∃ p, mg "ARITIES" = some (.ref p) ∧ Xk.KHas K w p ariV
  lwords : ∃ p, mg "LINE_WORDS" = some (.ref p) ∧ ∀ H, SqT K H p [.str (S [112, 97, 114, 116]), .str (S [114, 117, 110])]
  binders : ∃ p, mg "BINDERS" = some (.ref p) ∧ ∀ H, SqT K H p [.str (S [102, 117, 110]), .str (S [108, 101, 116])]
  deep : ∃ t, mg "DEEPEST" = some (.int 30 t)
  mostW : ∃ t, mg "MOST_WORDS" = some (.int 120 t)
  mostP : ∃ t, mg "MOST_PARTS" = some (.int 12 t)
  bwords : ∃ p, mg "BINDING_WORDS" = some (.ref p) ∧ ∀ H, SqT K H p [.str (S [99, 97, 108, 108]), .str (S [108, 101, 116]), .str (S [112, 97, 105, 114])]
def spFree : Sp := fun vs H Q _ => ∃ x : Wd, vs = [.str (S x)] ∧ x.length ≤ 9000 ∧ ∀ H', Ex H H' → Q (.bl (okFree x)) H'
theorem scF : FnScope ["word"] ["word"] (C8.fnScope (top 20)) := C8.fnScope_by (by decide +kernel)
theorem ok_is_free (F : C8.Def K mg "is_free" (top 20) f fd) (b : Binds K fd ["word"] []) (T : Txt2 K w mg) (cN : C8.Cal P w K mg base 1 "is_name" spName []) : C8.Cal P w K mg base 2 "is_free" spFree [] := by
  refine C8.cal0 F b .nil scF (fun vs H Q E h => by obtain ⟨x, rfl, _⟩ := h; rfl) (fun cdv A outer s H vs Q E hr h => ?_)
  obtain ⟨x, rfl, hx, k⟩ := h
  obtain ⟨pa, ma, ha⟩ := T.ari_
  obtain ⟨pl, ml, hl⟩ := T.lwords
  refine ⟨_, pss_one (ps_ret (pe_and (C8.pe_c cN hr (Nat.le_refl _) (by rfl) (pa_cons (pv 0) pa_nil)) (pe_and (pe_cmpR Xk.op_notInK (pv 0) (pe_glob (v := .ref pa) (by rfl) ma rfl) rfl) (pe_one (pe_cmpR op_notIn_seq (pv 0) (pe_glob (v := .ref pl) (by rfl) ml rfl) rfl))))), ?_⟩
  have v0 : ∀ {H1 : Hp}, Ev (tVar 0) (start ["word"] [V.str (S x)]) H1 (.str (S x)) := ev_var rfl
  have e : V.bl (nameOk x && ((!(ariV (S x)).isSome) && (!inV (.str (S x)) [.str (S [112, 97, 114, 116]), .str (S [114, 117, 110])]))) = V.bl (okFree x) := by
    have a1 : (ariV (S x)).isSome = (ari x).isSome := by
      have e : (S x).cps.toList = x := rfl
      unfold ariV
      rw [e]
      cases ari x <;> rfl
    have a2 : inV (.str (S x)) [.str (S [112, 97, 114, 116]), .str (S [114, 117, 110])] = (decide (x = [112, 97, 114, 116]) || decide (x = [114, 117, 110])) := by
      show ((S [112, 97, 114, 116] == S x) || ((S [114, 117, 110] == S x) || false)) = _
      rw [S_beq_eq, S_beq_eq, Bool.or_false, decide_eq_decide.mpr (eq_comm (a := [112, 97, 114, 116]) (b := x)), decide_eq_decide.mpr (eq_comm (a := [114, 117, 110]) (b := x))]
    rw [a1, a2]
    unfold okFree
    cases ari x <;> simp
  refine s_ret (ev_is (ev_andV (ev_call (ea_cons v0 ea_nil) fun H1 e1 Q' q E' => ⟨x, rfl, hx, fun H2 e2 => q H2 e2⟩) fun _ => ev_andV (ev_op v0 ev_c fun H1 e1 Q' q => ⟨S x, pa, ariV, rfl, rfl, ha, q H1 (Ex.refl H1)⟩) fun _ => ev_op v0 ev_c (rv_niT (hl H) rfl rfl)) e) fun H2 e2 => k H2 e2
def spWritten : Sp := fun vs H Q _ => ∃ x : Wd, vs = [.str (S x)] ∧ x.length ≤ 9000 ∧ ∀ H', Ex H H' → Q (.bl (written x)) H'
theorem scW : FnScope ["word", "number"] ["word"] (C8.fnScope (top 23)) := C8.fnScope_by (by decide +kernel)
theorem ev_notN {te : TE} {σ : L2.St} {H : Hp} {x : V} (h : Ev te σ H x) : Ev (tNotN te) σ H (.bl (!decide (x = .non))) := fun H1 e _ q => h H1 e _ fun H2 e2 => q H2 e2
theorem ev_isN {te : TE} {σ : L2.St} {H : Hp} {x : V} (h : Ev te σ H x) : Ev (tIsN te) σ H (.bl (decide (x = .non))) := fun H1 e _ q => h H1 e _ fun H2 e2 => q H2 e2
theorem ok_is_written (F : C8.Def K mg "is_written" (top 23) f fd) (b : Binds K fd ["word"] []) (T : Txt K w mg) (cI : C8.Cal P w K mg base 1 "integer_of" spInt []) : C8.Cal P w K mg base 2 "is_written" spWritten [] := by
  refine C8.cal0 F b .nil scW (fun vs H Q E h => by obtain ⟨x, rfl, _⟩ := h; rfl) (fun cdv A outer s H vs Q E hr h => ?_)
  obtain ⟨x, rfl, hx, k⟩ := h
  refine ⟨_, pss_cons (ps_if (pt_cmpR op_gt (pe_callB call_len_str (by rfl) T.len_ boot_len (pa_cons (pv 0) pa_nil)) pe_int (nomark _)) (pss_one (ps_ret pe_bl)) pss_nil)
    (pss_cons (ps_set (i := 1) scW.nd rfl (Or.inl rfl) (C8.pe_c cI hr (Nat.le_refl _) (by rfl) (pa_cons (pv 0) pa_nil)))
    (pss_one (ps_ret (pe_and (pe_cmp (pc_notN (pv 1))) (pe_one (pe_chain op_le op_le (pe_un un_neg pe_int) (pv 1) pe_int)))))), ?_⟩
  have hl : (S x).length = x.length := S_len x
  have small : (S x).length ≤ sizeLine := by rw [hl, sizeLine_eq]; omega
  have v0 : ∀ {H1 : Hp}, Ev (tVar 0) (start ["word", "number"] [V.str (S x)]) H1 (.str (S x)) := ev_var rfl
  refine q_when (b := decide ((3 : Int) < x.length)) (et_is (et_test (ev_op (ev_lenS v0 small) ev_c rv_I0)) (by rw [hl])) (fun hb H1 e1 => ?_) (fun hb H1 e1 => ?_)
  · have e : written x = false := by
      have z : ¬ x.length ≤ 3 := by have := of_decide_eq_true hb; omega
      unfold written
      rw [decide_eq_false z]
      rfl
    rw [e] at k
    exact s_ret ev_c fun H2 e2 => k H2 (e1.trans e2)
  · have h3 : x.length ≤ 3 := by have := of_decide_eq_false hb; omega
    refine q_asg (v := optI (intOf x)) (ev_call (ea_cons v0 ea_nil) fun H2 e2 Q' q E' => ⟨x, rfl, h3, fun H3 e3 => q H3 e3⟩) fun H2 e2 => ?_
    have v1 : ∀ {H1 : Hp}, Ev (tVar 1) ((start ["word", "number"] [V.str (S x)]).set 1 (some (optI (intOf x)))) H1 (optI (intOf x)) := ev_var rfl
    have e : written x = match intOf x with
        | none => false
        | some n => decide (-99 ≤ n) && decide (n ≤ 99) := by
      unfold written
      rw [decide_eq_true h3]
      rfl
    cases hi : intOf x with
    | none =>
      rw [hi] at e v1
      rw [e] at k
      exact s_ret (ev_is (ev_andV (b := false) (ev_notN v1) fun z => by cases z) rfl) fun H3 e3 => k H3 ((e1.trans e2).trans e3)
    | some n =>
      rw [hi] at e v1
      rw [e] at k
      exact s_ret (ev_is (ev_andV (b := decide (-99 ≤ n) && decide (n ≤ 99)) (ev_notN v1) fun _ => ev_chain (ev_un ev_c ru_neg) v1 rv_I0 (fun _ => ev_c) fun _ => rv_I0) rfl) fun H3 e3 => k H3 ((e1.trans e2).trans e3)
end
end K5
set_option Elab.async false
set_option linter.all false
set_option maxRecDepth 100000
set_option maxHeartbeats 4000000
namespace K5
open PySem PySem.Spec PyProof.Rows L2 Evl Xl SX Mi
section
variable {P : Program} {w : World} {K : PySem.W.Frag} {mg : Str → Option Value} {base : Heap} {f : Addr} {fd : FuncData}
/-! ### nodes -/
def nfL (t : Addr) (sign kind named : Str) (outer : V) (wi : Addr) (binder : V) (level : Int) : List (Str × V) :=
  [("place", .ref t), ("sign", .str sign), ("kind", .str kind), ("named", .str named), ("outer", outer), ("within", .ref wi), ("binder", binder), ("level", .int level)]
structure NodeC (K : PySem.W.Frag) (mg : Str → Option Value) (C : Addr) : Prop where
  cl : Cls K C
  mgC : mg "Node" = some (.ref C)
  n1 : NoAttr K C "place"
  n2 : NoAttr K C "sign"
  n3 : NoAttr K C "kind"
  n4 : NoAttr K C "named"
  n5 : NoAttr K C "outer"
  n6 : NoAttr K C "within"
  n7 : NoAttr K C "binder"
  n8 : NoAttr K C "level"
  eq : Xq.EqC K C
theorem upd_over {H : Hp} {a b : Addr} {o1 o2 u : HO} (h : a ≠ b) : upd (upd (upd H a o1) b u) a o2 = upd (upd H b u) a o2 := by
  funext c
  unfold upd
  by_cases h1 : c = a
  · simp [h1]
  · simp [h1]
/-- who stands around it, and how deep it stands then -/
def OutV (C : Addr) (H : Hp) (ov : V) (lv : Int) : Prop := (ov = .non ∧ lv = 1) ∨ ∃ (oa dx : Addr) (fs : List (Str × V)) (l : Int), ov = .ref oa ∧ H oa = some (.ins C dx fs) ∧ fs.lookup ("level" : Str) = some (.int l) ∧ lv = l + 1
def spNode (C : Addr) : Sp := fun vs H Q _ => ∃ (p dx t : Addr) (sg : Str) (ov : V) (lv : Int), vs = [.ref p, .ref t, .str sg, ov] ∧ H p = some (.ins C dx []) ∧ OutV C H ov lv ∧ (∀ oa, ov = .ref oa → oa ≠ p) ∧
  ∀ wi, H wi = none → Q .non (upd (upd H wi (.lst [])) p (.ins C dx (nfL t sg sg (Str.ofString "") ov wi .non lv)))
abbrev sNode : Stmt := inClass (top 19) 0
theorem scNode : FnScope ["self", "place", "sign", "outer"] ["self", "place", "sign", "outer"] (C8.fnScope sNode) := C8.fnScope_by (by decide +kernel)
theorem ok_node {C : Addr} (F : C8.Fun K "__init__" "Node.__init__" sNode f fd) (T : NodeC K mg C) (M : Mk K C f) (b : Binds K fd ["self", "place", "sign", "outer"] []) : C8.Mak P w K mg base 1 "Node" C (spNode C) [] := by
  refine C8.mak0 M T.mgC F b .nil scNode (fun vs H Q E h => by obtain ⟨p, dx, t, sg, ov, lv, rfl, _⟩ := h; rfl) (fun cdv A outer s H vs Q E hr h => ?_)
  obtain ⟨p, dx, t, sg, ov, lv, rfl, hp, ho, hne, k⟩ := h
  refine ⟨_, pss_cons (ps_fld (pv 0) (pv 1) rfl) (pss_cons (ps_fld (pv 0) (pv 2) rfl) (pss_cons (ps_fld (pv 0) (pv 2) rfl) (pss_cons (ps_fld (pv 0) pe_str rfl) (pss_cons (ps_fld (pv 0) (pv 3) rfl)
    (pss_cons (ps_fld (pv 0) (pe_lst pa_nil) rfl) (pss_cons (ps_fld (pv 0) pe_non rfl) (pss_one (ps_fld (pv 0) (pe_ifExp (pt_cmp (pc_isN (pv 3))) pe_int (pe_op op_add (pe_fld (pv 3) rfl) pe_int)) rfl)))))))), ?_⟩
  refine ⟨_, rfl, _, rfl, p, C, dx, [], rfl, hp, T.cl, T.n1, (by show 0 < 1000; decide), ?_⟩
  refine ⟨_, rfl, _, rfl, p, C, dx, _, rfl, upd_same, T.cl, T.n2, (by show 1 < 1000; decide), ?_⟩
  refine ⟨_, rfl, _, rfl, p, C, dx, _, rfl, upd_same, T.cl, T.n3, (by show 2 < 1000; decide), ?_⟩
  refine ⟨_, rfl, p, C, dx, _, rfl, upd_same, T.cl, T.n4, (by show 3 < 1000; decide), ?_⟩
  refine ⟨_, rfl, _, rfl, p, C, dx, _, rfl, upd_same, T.cl, T.n5, (by show 4 < 1000; decide), ?_⟩
  refine ⟨(by show 0 ≤ sizeLine; decide), fun wi hwi => ?_⟩
  have hp2 : p ≠ wi := fun z => by rw [z, upd_same] at hwi; cases hwi
  refine ⟨_, rfl, p, C, dx, _, rfl, (upd_ne hp2).trans upd_same, T.cl, T.n6, (by show 5 < 1000; decide), ?_⟩
  refine ⟨_, rfl, p, C, dx, _, rfl, upd_same, T.cl, T.n7, (by show 6 < 1000; decide), ?_⟩
  have hw' : H wi = none := (upd_ne hp2.symm).symm.trans ((upd_ne hp2.symm).symm.trans ((upd_ne hp2.symm).symm.trans ((upd_ne hp2.symm).symm.trans ((upd_ne hp2.symm).symm.trans hwi))))
  have fin : ∀ (G : Hp), G = upd (upd (upd (upd (upd (upd (upd (upd (upd H p (.ins C dx [("place", .ref t)])) p (.ins C dx [("place", .ref t), ("sign", .str sg)])) p (.ins C dx [("place", .ref t), ("sign", .str sg), ("kind", .str sg)])) p (.ins C dx [("place", .ref t), ("sign", .str sg), ("kind", .str sg), ("named", .str (Str.ofString ""))])) p (.ins C dx [("place", .ref t), ("sign", .str sg), ("kind", .str sg), ("named", .str (Str.ofString "")), ("outer", ov)])) wi (.lst [])) p (.ins C dx [("place", .ref t), ("sign", .str sg), ("kind", .str sg), ("named", .str (Str.ofString "")), ("outer", ov), ("within", .ref wi)])) p (.ins C dx [("place", .ref t), ("sign", .str sg), ("kind", .str sg), ("named", .str (Str.ofString "")), ("outer", ov), ("within", .ref wi), ("binder", .non)])) p (.ins C dx (nfL t sg sg (Str.ofString "") ov wi .non lv)) → Q .non G := by
    intro G hG
    have e : G = upd (upd H wi (.lst [])) p (.ins C dx (nfL t sg sg (Str.ofString "") ov wi .non lv)) := by
      rw [hG]
      funext c
      unfold upd
      by_cases h1 : c = p
      · simp [h1]
      · simp [h1]
    rw [e]
    exact k wi hw'
  rcases ho with ⟨rfl, rfl⟩ | ⟨oa, dx2, fs, l, rfl, h1, h2, rfl⟩
  · exact ⟨_, rfl, true, rfl, ⟨_, rfl, p, C, dx, _, rfl, upd_same, T.cl, T.n8, (by show 7 < 1000; decide), fin _ rfl⟩⟩
  · have ne := hne oa rfl
    have nw : oa ≠ wi := fun z => by
      rw [z, hw'] at h1
      cases h1
    refine ⟨_, rfl, false, rfl, ⟨_, rfl, oa, C, dx2, fs, _, rfl, ?_, T.cl, T.n8, h2, ⟨l, 1, rfl, rfl, _, rfl, p, C, dx, _, rfl, upd_same, T.cl, T.n8, (by show 7 < 1000; decide), fin _ rfl⟩⟩⟩
    unfold upd
    simp [ne, nw, h1]
end
end K5
set_option Elab.async false
set_option linter.all false
set_option maxRecDepth 100000
set_option maxHeartbeats 4000000
namespace K5
open PySem PySem.Spec PyProof.Rows L2 Evl Xl SX Mi
theorem ex_put {H H2 : Hp} {p : Addr} {o : HO} (h : H p = none) (e : Ex H H2) : Ex H (upd H2 p o) := by
  intro c u hu
  have ne : c ≠ p := fun z => by rw [z, h] at hu; cases hu
  rw [upd_ne ne]
  exact e c u hu
theorem ev_fld {K : PySem.W.Frag} {ta : TE} {σ : L2.St} {H : Hp} {f : Str} {a C dx : Addr} {fs : List (Str × V)} {v : V} (h : Ev ta σ H (.ref a)) (ha : H a = some (.ins C dx fs)) (hc : Cls K C) (hn : NoAttr K C f) (hv : fs.lookup f = some v) : Ev (tFld K ta f) σ H v :=
  fun H1 e Q q => h H1 e _ fun H2 e2 => ⟨a, C, dx, fs, v, rfl, e2 _ _ (e _ _ ha), hc, hn, hv, q H2 e2⟩
theorem q_fld {K : PySem.W.Frag} {ta te : TE} {σ : L2.St} {H : Hp} {f : Str} {a C dx : Addr} {fs : List (Str × V)} {v : V} {D : Ends} {tz : TS} (ha : H a = some (.ins C dx fs)) (h0 : Ev ta σ H (.ref a)) (h : Ev te σ H v) (hc : Cls K C) (hn : NoAttr K C f) (hl : fs.length < 1000)
    (k : ∀ H1, Ex H H1 → tz D σ (upd H1 a (.ins C dx (putF f v fs)))) : tSeq (sFld K ta te f) tz D σ H :=
  h H (Ex.refl H) _ fun H1 e1 => h0 H1 e1 _ fun H2 e2 => ⟨a, C, dx, fs, rfl, e2 _ _ (e1 _ _ ha), hc, hn, hl, k H2 (e1.trans e2)⟩
theorem q_two {K : PySem.W.Frag} {te : TE} {σ : L2.St} {H : Hp} {q : Addr} {x y : V} {i j : Nat} {D : Ends} {tz : TS} (h : Ev te σ H (.ref q)) (hq : H q = some (.tup [x, y])) (k : ∀ H1, Ex H H1 → tz D ((σ.set i (some x)).set j (some y)) H1) :
    tSeq (tAsg te (gTup K 2 (gCons (gName i) (gCons (gName j) gNil)))) tz D σ H :=
  h H (Ex.refl H) _ fun H1 e1 => ⟨q, _, rfl, st_of (e1 _ _ hq), rfl, x, [y], rfl, y, [], rfl, rfl, k H1 e1⟩
section
variable {P : Program} {w : World} {K : PySem.W.Frag} {mg : Str → Option Value} {base : Heap} {f : Addr} {fd : FuncData}
/-! ### read_node -/
theorem outV_up {C : Addr} {H H1 : Hp} {ov : V} {lv : Int} (h : OutV C H ov lv) (e : Ex H H1) : OutV C H1 ov lv := by
  rcases h with h | ⟨oa, dx, fs, l, h1, h2, h3, h4⟩
  · exact .inl h
  · exact .inr ⟨oa, dx, fs, l, h1, e _ _ h2, h3, h4⟩
theorem q_node {C t : Addr} {E : XK} {ta : TA} {σ : L2.St} {H : Hp} {sg : Str} {ov : V} {lv : Int} {i : Nat} {D : Ends} {tz : TS} (h : EvA ta σ H [.ref t, .str sg, ov]) (ho : OutV C H ov lv)
    (k : ∀ (p dx wi : Addr) (H2 : Hp), Ex H H2 → H p = none → H wi = none → p ≠ wi → H2 p = some (.ins C dx (nfL t sg sg (Str.ofString "") ov wi .non lv)) → H2 wi = some (.lst []) → tz D (σ.set i (some (.ref p))) H2) :
    tSeq (tAsg (tMake C (spNode C) [] E ta) (gName i)) tz D σ H := by
  refine h H (Ex.refl H) _ fun H1 e1 p dx hp hdx hne => ?_
  have ex0 : Ex H1 (upd (upd H1 dx (.own p)) p (.ins C dx [])) := ex_put hp (ex_put hdx (Ex.refl H1))
  refine ⟨p, dx, t, sg, ov, lv, rfl, upd_same, outV_up ho (e1.trans ex0), fun oa e z => ?_, fun wi hwi => ⟨rfl, ?_⟩⟩
  · subst z
    rcases ho with ⟨e', _⟩ | ⟨oa, dx2, fs, l, e', h2, _⟩
    · rw [e] at e'; cases e'
    · rw [e] at e'
      cases e'
      have := e1 _ _ h2
      rw [hp] at this
      cases this
  · have hwi1 : H1 wi = none := by
      cases z : H1 wi with
      | none => rfl
      | some o => rw [ex0 _ _ z] at hwi; cases hwi
    have ne : p ≠ wi := fun z => by rw [← z, upd_same] at hwi; cases hwi
    refine k p dx wi _ (e1.trans (ex_put hp (ex_put hwi1 ex0))) (fresh_back e1 hp) (fresh_back e1 hwi1) ne upd_same ?_
    rw [upd_ne ne.symm, upd_same]
theorem ariV_some {x : Wd} : (ariV (S x)).isSome = (ari x).isSome := by
  have e : (S x).cps.toList = x := rfl
  unfold ariV
  rw [e]
  cases ari x <;> rfl
theorem atI_ws {ws : List Wd} {i : Nat} (h : i < ws.length) : atI (ws.map fun x => V.str (S x)) (i : Int) = some (.str (S (ws.getD i []))) := by
  refine atI_nat (j := i) ?_
  simp [List.getD_eq_getElem?_getD, h]
theorem mem_ws {ws : List Wd} {i : Nat} (h : i < ws.length) : ws.getD i [] ∈ ws := by
  have : ws.getD i [] = ws[i] := by simp [List.getD_eq_getElem?_getD, h]
  rw [this]
  exact List.getElem_mem h
def spRead (C : Addr) : Sp := fun vs H Q _ => ∃ (t wd : Addr) (nm : V) (at_ : Nat) (ws : List Wd) (ov : V) (o : Option Nat) (lv : Nat), vs = [.ref t, .ref wd, ov] ∧ H t = some (.tup [nm, .int at_]) ∧ H wd = some (.lst (ws.map fun x => .str (S x))) ∧
  OutV C H ov lv ∧ at_ < ws.length ∧ ws.length ≤ 200 ∧ (∀ x ∈ ws, x.length ≤ 9000) ∧
  (readNd ws at_ o lv = none → ∀ H', Ex H H' → Q .non H') ∧
  ∀ nd, readNd ws at_ o lv = some nd → ∀ (p dx wi : Addr) (H' : Hp), Ex H H' → H p = none → H wi = none → H' p = some (.ins C dx (nfL t (S nd.sign) (S nd.kind) (S nd.named) ov wi .non nd.level)) → H' wi = some (.lst []) → Q (.ref p) H'
theorem scR : FnScope ["place", "words", "outer", "_", "at", "node"] ["place", "words", "outer"] (C8.fnScope (top 22)) := C8.fnScope_by (by decide +kernel)
theorem ok_read {C : Addr} (F : C8.Def K mg "read_node" (top 22) f fd) (b : Binds K fd ["place", "words", "outer"] []) (T : Txt2 K w mg) (N : NodeC K mg C) (cM : C8.Mak P w K mg base 1 "Node" C (spNode C) [])
    (cF : C8.Cal P w K mg base 2 "is_free" spFree []) (cW : C8.Cal P w K mg base 2 "is_written" spWritten []) : C8.Cal P w K mg base 3 "read_node" (spRead C) [] := by
  obtain ⟨pa, ma, ha⟩ := T.ari_
  obtain ⟨pb, mb, hb⟩ := T.binders
  obtain ⟨td, md⟩ := T.deep
  refine C8.cal0 F b .nil scR (fun vs H Q E h => by obtain ⟨t, wd, nm, at_, ws, ov, o, lv, rfl, _⟩ := h; rfl) (fun cdv A outer s H vs Q E hr h => ?_)
  obtain ⟨t, wd, nm, at_, ws, ov, o, lv, rfl, ht, hwd, ho, hat, hlen, hxs, k0, k1⟩ := h
  refine ⟨_, pss_cons (ps_asg (pv 0) (pg_tup (by rfl) (pgs_cons (pg_name (i := 3) scR.nd rfl (.inl rfl)) (pgs_cons (pg_name (i := 4) scR.nd rfl (.inl rfl)) pgs_nil))))
    (pss_cons (ps_set (i := 5) scR.nd rfl (Or.inl rfl) (C8.pe_mk cM hr (by decide) (by rfl) (pa_cons (pv 0) (pa_cons (pe_ix ix_list (pv 1) (pv 4) (fun _ _ => rfl)) (pa_cons (pv 2) pa_nil)))))
    (pss_cons (ps_if (pt_cmpR op_gt (pe_fld (pv 5) rfl) (pe_glob (v := .int 30) (by rfl) md ⟨td, rfl⟩) (nomark _)) (pss_one (ps_ret pe_non)) pss_nil)
    (pss_cons (ps_if (pt_cmpR Xk.op_inK (pe_fld (pv 5) rfl) (pe_glob (v := .ref pa) (by rfl) ma rfl) rfl)
      (pss_cons (ps_if (pt_cmpR op_in_seq (pe_fld (pv 5) rfl) (pe_glob (v := .ref pb) (by rfl) mb rfl) rfl)
        (pss_cons (ps_fld (pv 5) (pe_ifExp (pt_cmpR op_lt (pe_op op_add (pv 4) pe_int) (pe_callB call_len_seq (by rfl) T.len_ boot_len (pa_cons (pv 1) pa_nil)) (nomark _)) (pe_ix ix_list (pv 1) (pe_op op_add (pv 4) pe_int) (fun _ _ => rfl)) pe_str) rfl)
          (pss_one (ps_ret (pe_ifExp (pt_val (C8.pe_c cF hr (by decide) (by rfl) (pa_cons (pe_fld (pv 5) rfl) pa_nil))) (pv 5) pe_non)))) pss_nil)
      (pss_one (ps_ret (pv 5)))) pss_nil)
    (pss_cons (ps_if (pt_val (C8.pe_c cF hr (by decide) (by rfl) (pa_cons (pe_fld (pv 5) rfl) pa_nil))) (pss_cons (ps_fld (pv 5) pe_str rfl) (pss_one (ps_ret (pv 5)))) pss_nil)
    (pss_cons (ps_fld (pv 5) pe_str rfl)
    (pss_one (ps_ret (pe_ifExp (pt_val (C8.pe_c cW hr (by decide) (by rfl) (pa_cons (pe_fld (pv 5) rfl) pa_nil))) (pv 5) pe_non)))))))), ?_⟩
  refine q_two (q := t) (ev_var rfl) ht fun H1 e1 => ?_
  have l0 : (Str.ofString "" : Str) = S [] := by decide
  refine q_node (t := t) (ov := ov) (sg := S (ws.getD at_ [])) (lv := lv) ?_ (outV_up ho e1) fun p dx wi H2 e20 hp0 hw0 hne hp2 hw2 => ?_
  · exact ea_cons (ev_var rfl) (ea_cons (ev_op (ev_var rfl) (ev_var rfl) (rv_ixL (sq_of (e1 _ _ hwd)) (atI_ws hat))) (ea_cons (ev_var rfl) ea_nil))
  have e2 := e1.trans e20
  have hp := fresh_back e1 hp0
  have hw := fresh_back e1 hw0
  have hx := hxs _ (mem_ws hat)
  generalize hsg : ws.getD at_ [] = sg at *
  have hx1 : ∀ i, i < ws.length → (ws.getD i []).length ≤ 9000 := fun i h => hxs _ (mem_ws h)
  have v5 : ∀ {H1 : Hp} {σ : L2.St}, σ = ([some (V.ref t), some (.ref wd), some ov, some nm, some (.int at_), some (.ref p)] : L2.St) → Ev (tVar 5) σ H1 (.ref p) := fun e => ev_var (by rw [e]; rfl)
  refine q_when (b := decide (30 < lv)) (et_is (et_test (ev_op (ev_fld (v5 rfl) hp2 N.cl N.n8 rfl) ev_c rv_I0)) (by simp; norm_cast)) (fun hz H3 e3 => ?_) (fun hz H3 e3 => ?_)
  · refine s_ret ev_c fun H4 e4 => k0 ?_ _ ((e2.trans e3).trans e4)
    unfold readNd
    simp [of_decide_eq_true hz]
  have hb30 : ¬ 30 < lv := of_decide_eq_false hz
  refine q_when (b := (ari sg).isSome) (et_is (et_test (ev_op (ev_fld (v5 rfl) (e3 _ _ hp2) N.cl N.n2 rfl) ev_c fun H1 e1 Q' q => ⟨S sg, pa, ariV, rfl, rfl, ha, q H1 (Ex.refl H1)⟩)) (by show (ariV (S sg)).isSome = _; exact ariV_some)) (fun hb1 H4 e4 => ?_) (fun hb1 H4 e4 => ?_)
  · refine q_when (b := isBind sg) (et_is (et_test (ev_op (ev_fld (v5 rfl) (e4 _ _ (e3 _ _ hp2)) N.cl N.n2 rfl) ev_c (rv_inT (hb H4) rfl rfl))) ?_) (fun hb2 H5 e5 => ?_) (fun hb2 H5 e5 => ?_)
    · show inV (.str (S sg)) [.str (S [102, 117, 110]), .str (S [108, 101, 116])] = _
      show ((S [102, 117, 110] == S sg) || ((S [108, 101, 116] == S sg) || false)) = _
      rw [S_beq_eq, S_beq_eq, Bool.or_false, decide_eq_decide.mpr (eq_comm (a := [102, 117, 110]) (b := sg)), decide_eq_decide.mpr (eq_comm (a := [108, 101, 116]) (b := sg))]
      rfl
    · have hp5 := e5 _ _ (e4 _ _ (e3 _ _ hp2))
      have hw5 := e5 _ _ (e4 _ _ (e3 _ _ hw2))
      have eH5 := ((e2.trans e3).trans e4).trans e5
      generalize hnm : (if at_ + 1 < ws.length then ws.getD (at_ + 1) [] else []) = nmw
      have hnl : nmw.length ≤ 9000 := by
        rw [← hnm]
        split
        · exact hx1 _ (by assumption)
        · simp
      have rd : readNd ws at_ o lv = if okFree nmw then some { mkNd at_ sg o lv with named := nmw } else none := by
        unfold readNd
        simp only [hsg, hb1, hb2, if_neg hb30, if_true, hnm]
      refine q_fld hp5 (v5 rfl) (v := .str (S nmw)) ?_ N.cl N.n4 (by show 8 < 1000; decide) fun H6 e6 => ?_
      · have tt : Ev (tOp (rI0 fun i j => V.int (i + j)) (tVar 4) (tC (V.int 1))) ([some (V.ref t), some (.ref wd), some ov, some nm, some (.int at_), some (.ref p)] : L2.St) H5 (.int ((at_ + 1 : Nat) : Int)) := ev_is (ev_op (ev_var rfl) ev_c rv_I0) (by push_cast; rfl)
        refine ev_if (b := decide (at_ + 1 < ws.length)) (et_is (et_test (ev_op tt (ev_len (ev_var rfl) (sq_of (eH5 _ _ hwd))) rv_I0)) (by simp; norm_cast)) (fun h1 => ?_) (fun h1 => ?_)
        · rw [if_pos (of_decide_eq_true h1)] at hnm
          rw [← hnm]
          exact ev_op (ev_var rfl) tt (rv_ixL (sq_of (eH5 _ _ hwd)) (atI_ws (of_decide_eq_true h1)))
        · rw [if_neg (of_decide_eq_false h1)] at hnm
          rw [← hnm, ← l0]
          exact ev_c
      · have eF : Ex H (upd H6 p (.ins C dx (nfL t (S sg) (S sg) (S nmw) ov wi .non lv))) := ex_put hp (eH5.trans e6)
        have fr : Ev (tCall spFree [] C8.E0 (tCons (tFld K (tVar 5) "named") tNil)) ([some (V.ref t), some (.ref wd), some ov, some nm, some (.int at_), some (.ref p)] : L2.St) (upd H6 p (.ins C dx (nfL t (S sg) (S sg) (S nmw) ov wi .non lv))) (.bl (okFree nmw)) :=
          ev_call (ea_cons (ev_fld (v5 rfl) upd_same N.cl N.n4 rfl) ea_nil) fun H1 e1 Q' q E' => ⟨nmw, rfl, hnl, q⟩
        cases hok : okFree nmw with
        | true =>
          rw [hok] at fr rd
          refine s_ret (ev_if (b := true) (et_B fr) (fun _ => v5 rfl) fun z => by cases z) fun H7 e7 => k1 _ rd p dx wi H7 (eF.trans e7) hp hw (e7 _ _ upd_same) (e7 _ _ ((upd_ne hne.symm).trans (e6 _ _ hw5)))
        | false =>
          rw [hok] at fr rd
          exact s_ret (ev_if (b := false) (et_B fr) (fun z => by cases z) fun _ => ev_c) fun H7 e7 => k0 rd _ (eF.trans e7)
    · refine s_ret (v5 rfl) fun H6 e6 => k1 (mkNd at_ sg o lv) ?_ p dx wi H6 ((((e2.trans e3).trans e4).trans e5).trans e6) hp hw (e6 _ _ (e5 _ _ (e4 _ _ (e3 _ _ hp2)))) (e6 _ _ (e5 _ _ (e4 _ _ (e3 _ _ hw2))))
      unfold readNd
      simp only [hsg, hb1, hb2, if_neg hb30, if_true, Bool.false_eq_true, if_false]
  · have hp4 := e4 _ _ (e3 _ _ hp2)
    have hw4 := e4 _ _ (e3 _ _ hw2)
    have eH4 := (e2.trans e3).trans e4
    refine q_when (b := okFree sg) (et_B (ev_call (ea_cons (ev_fld (v5 rfl) hp4 N.cl N.n2 rfl) ea_nil) fun H1 e1 Q' q E' => ⟨sg, rfl, hx, q⟩)) (fun hb2 H5 e5 => ?_) (fun hb2 H5 e5 => ?_)
    · refine q_fld (e5 _ _ hp4) (v5 rfl) ev_c N.cl N.n3 (by show 8 < 1000; decide) fun H6 e6 => ?_
      have eF : Ex H (upd H6 p (.ins C dx (nfL t (S sg) (S [110, 97, 109, 101]) (S []) ov wi .non lv))) := ex_put hp ((eH4.trans e5).trans e6)
      refine s_ret (v5 rfl) fun H7 e7 => k1 { mkNd at_ sg o lv with kind := [110, 97, 109, 101] } ?_ p dx wi H7 (eF.trans e7) hp hw (e7 _ _ (by rw [show S [110, 97, 109, 101] = ("name" : Str) by decide]; exact upd_same)) (e7 _ _ ((upd_ne hne.symm).trans (e6 _ _ (e5 _ _ hw4))))
      unfold readNd
      simp only [hsg, hb1, hb2, if_neg hb30, if_true, Bool.false_eq_true, if_false]
    · refine q_fld (e5 _ _ hp4) (v5 rfl) ev_c N.cl N.n3 (by show 8 < 1000; decide) fun H6 e6 => ?_
      have eF : Ex H (upd H6 p (.ins C dx (nfL t (S sg) (Str.ofString "number") (S []) ov wi .non lv))) := ex_put hp ((eH4.trans e5).trans e6)
      have fr : Ev (tCall spWritten [] C8.E0 (tCons (tFld K (tVar 5) "sign") tNil)) ([some (V.ref t), some (.ref wd), some ov, some nm, some (.int at_), some (.ref p)] : L2.St) (upd H6 p (.ins C dx (nfL t (S sg) (Str.ofString "number") (S []) ov wi .non lv))) (.bl (written sg)) :=
        ev_call (ea_cons (ev_fld (v5 rfl) upd_same N.cl N.n2 rfl) ea_nil) fun H1 e1 Q' q E' => ⟨sg, rfl, hx, q⟩
      have rd : readNd ws at_ o lv = if written sg then some { mkNd at_ sg o lv with kind := [110, 117, 109, 98, 101, 114] } else none := by
        unfold readNd
        simp only [hsg, hb1, hb2, if_neg hb30, Bool.false_eq_true, if_false]
      cases hok : written sg with
      | true =>
        rw [hok] at fr rd
        exact s_ret (ev_if (b := true) (et_B fr) (fun _ => v5 rfl) fun z => by cases z) fun H7 e7 => k1 _ rd p dx wi H7 (eF.trans e7) hp hw (e7 _ _ (by show _ = some (HO.ins C dx (nfL t (S sg) (S [110, 117, 109, 98, 101, 114]) (S []) ov wi .non lv)); rw [show S [110, 117, 109, 98, 101, 114] = ("number" : Str) by decide]; exact upd_same)) (e7 _ _ ((upd_ne hne.symm).trans (e6 _ _ (e5 _ _ hw4))))
      | false =>
        rw [hok] at fr rd
        exact s_ret (ev_if (b := false) (et_B fr) (fun z => by cases z) fun _ => ev_c) fun H7 e7 => k0 rd _ (eF.trans e7)
end
end K5
set_option Elab.async false
set_option linter.all false
set_option maxRecDepth 100000
set_option maxHeartbeats 4000000
namespace K5
open PySem PySem.Spec PyProof.Rows L2 Evl Xl SX Mi
/-! ### the nodes of a line, as they lie in the heap -/
structure Rec where
  a : Addr
  dx : Addr
  t : Addr
  w : Addr
  deriving Inhabited
def R (rs : List Rec) (i : Nat) : Rec := rs.getD i default
def oref (rs : List Rec) : Option Nat → V
  | none => .non
  | some i => .ref (R rs i).a
def refs (rs : List Rec) (is : List Nat) : List V := is.map fun i => .ref (R rs i).a
structure NodeAt (C : Addr) (nm : V) (rs : List Rec) (H : Hp) (r : Rec) (n : Nd) : Prop where
  ins : H r.a = some (.ins C r.dx (nfL r.t (S n.sign) (S n.kind) (S n.named) (oref rs n.outer) r.w (oref rs n.binder) n.level))
  tup : H r.t = some (.tup [nm, .int n.at_])
  win : H r.w = some (.lst (refs rs n.within))
structure Nds (C : Addr) (nm : V) (rs : List Rec) (ns : List Nd) (H : Hp) : Prop where
  len : rs.length = ns.length
  at_ : ∀ i, i < ns.length → NodeAt C nm rs H (R rs i) (nth ns i)
  ia : ∀ i j, i < ns.length → j < ns.length → (R rs i).a = (R rs j).a → i = j
  iw : ∀ i j, i < ns.length → j < ns.length → (R rs i).w = (R rs j).w → i = j
theorem nth_set {ns : List Nd} {i j : Nat} {x : Nd} (h : j < ns.length) : nth (ns.set i x) j = if i = j then x else nth ns j := by
  unfold nth
  by_cases e : i = j
  · subst e; simp [List.getD_eq_getElem?_getD, h]
  · simp [List.getD_eq_getElem?_getD, e]
def Keep (T : Addr → Prop) (H H' : Hp) : Prop := ∀ c o, ¬ T c → H c = some o → H' c = some o
theorem Keep.refl (T : Addr → Prop) (H : Hp) : Keep T H H := fun _ _ _ h => h
theorem Keep.ex {T : Addr → Prop} {H H1 H2 : Hp} (h : Keep T H H1) (e : Ex H1 H2) : Keep T H H2 := fun c o n hc => e _ _ (h c o n hc)
theorem Keep.of {T : Addr → Prop} {H H1 : Hp} (e : Ex H H1) : Keep T H H1 := fun c o n hc => e _ _ hc
theorem Keep.put {T : Addr → Prop} {H H1 : Hp} {p : Addr} {o : HO} (h : Keep T H H1) (t : T p) : Keep T H (upd H1 p o) := fun c u n hc => by
  have ne : c ≠ p := fun z => n (z ▸ t)
  rw [upd_ne ne]
  exact h c u n hc
theorem Keep.trans {T : Addr → Prop} {H H1 H2 : Hp} (h : Keep T H H1) (h2 : Keep T H1 H2) : Keep T H H2 := fun c u n hc => h2 c u n (h c u n hc)
theorem Nds.ex {C : Addr} {nm : V} {rs : List Rec} {ns : List Nd} {H H' : Hp} (h : Nds C nm rs ns H) (e : Ex H H') : Nds C nm rs ns H' :=
  ⟨h.len, fun i hi => ⟨e _ _ (h.at_ i hi).ins, e _ _ (h.at_ i hi).tup, e _ _ (h.at_ i hi).win⟩, h.ia, h.iw⟩
/-- another list may change -/
theorem Nds.other {C : Addr} {nm : V} {rs : List Rec} {ns : List Nd} {H : Hp} {p : Addr} {xs ys : List V} (h : Nds C nm rs ns H) (hp : H p = some (.lst xs)) (hw : ∀ i, i < ns.length → (R rs i).w ≠ p) : Nds C nm rs ns (upd H p (.lst ys)) := by
  refine ⟨h.len, fun i hi => ?_, h.ia, h.iw⟩
  have n := h.at_ i hi
  have n1 : (R rs i).a ≠ p := fun z => by have := n.ins; rw [z, hp] at this; cases this
  have n2 : (R rs i).t ≠ p := fun z => by have := n.tup; rw [z, hp] at this; cases this
  exact ⟨(upd_ne n1).trans n.ins, (upd_ne n2).trans n.tup, (upd_ne (hw i hi)).trans n.win⟩
/-- the within of one node -/
theorem Nds.setW {C : Addr} {nm : V} {rs : List Rec} {ns : List Nd} {H : Hp} {o : Nat} (is : List Nat) (h : Nds C nm rs ns H) (ho : o < ns.length) :
    Nds C nm rs (ns.set o { nth ns o with within := is }) (upd H (R rs o).w (.lst (refs rs is))) := by
  have hl : (ns.set o { nth ns o with within := is }).length = ns.length := by simp
  refine ⟨by rw [hl]; exact h.len, fun i hi => ?_, fun i j hi hj => h.ia i j (hl ▸ hi) (hl ▸ hj), fun i j hi hj => h.iw i j (hl ▸ hi) (hl ▸ hj)⟩
  rw [hl] at hi
  have n := h.at_ i hi
  have n1 : (R rs i).a ≠ (R rs o).w := fun z => by have := n.ins; rw [z, (h.at_ o ho).win] at this; cases this
  have n2 : (R rs i).t ≠ (R rs o).w := fun z => by have := n.tup; rw [z, (h.at_ o ho).win] at this; cases this
  rw [nth_set hi]
  by_cases e : o = i
  · subst e
    rw [if_pos rfl]
    exact ⟨(upd_ne n1).trans n.ins, (upd_ne n2).trans n.tup, upd_same⟩
  · rw [if_neg e]
    exact ⟨(upd_ne n1).trans n.ins, (upd_ne n2).trans n.tup, (upd_ne fun z => e (h.iw i o hi ho z).symm).trans n.win⟩
/-- fields of one node -/
theorem Nds.setN {C : Addr} {nm : V} {rs : List Rec} {ns : List Nd} {H : Hp} {o : Nat} (x : Nd) (h : Nds C nm rs ns H) (ho : o < ns.length) (hw : x.within = (nth ns o).within) (ha : x.at_ = (nth ns o).at_) :
    Nds C nm rs (ns.set o x) (upd H (R rs o).a (.ins C (R rs o).dx (nfL (R rs o).t (S x.sign) (S x.kind) (S x.named) (oref rs x.outer) (R rs o).w (oref rs x.binder) x.level))) := by
  have hl : (ns.set o x).length = ns.length := by simp
  refine ⟨by rw [hl]; exact h.len, fun i hi => ?_, fun i j hi hj => h.ia i j (hl ▸ hi) (hl ▸ hj), fun i j hi hj => h.iw i j (hl ▸ hi) (hl ▸ hj)⟩
  rw [hl] at hi
  have n := h.at_ i hi
  have n2 : (R rs i).t ≠ (R rs o).a := fun z => by have := n.tup; rw [z, (h.at_ o ho).ins] at this; cases this
  have n3 : (R rs i).w ≠ (R rs o).a := fun z => by have := n.win; rw [z, (h.at_ o ho).ins] at this; cases this
  rw [nth_set hi]
  by_cases e : o = i
  · subst e
    rw [if_pos rfl]
    exact ⟨upd_same, by rw [ha]; exact (upd_ne n2).trans n.tup, by rw [hw]; exact (upd_ne n3).trans n.win⟩
  · rw [if_neg e]
    exact ⟨(upd_ne fun z => e (h.ia i o hi ho z).symm).trans n.ins, (upd_ne n2).trans n.tup, (upd_ne n3).trans n.win⟩
theorem et_truL {K : PySem.W.Frag} {ta : TE} {σ : L2.St} {H : Hp} {p : Addr} {xs : List V} (h : Ev ta σ H (.ref p)) (hp : SqL K H p xs) : EvT (fun σ H Q => ta σ H fun x H' => ∃ k, TruV K x H' k ∧ Q k H') σ H (!xs.isEmpty) :=
  fun H1 e Q q => h H1 e _ fun H2 e2 => ⟨_, .inl ⟨xs, hp.imp (ex_rd (e.trans e2)) id, rfl⟩, q H2 e2⟩
theorem ev_kget {K : PySem.W.Frag} {w : World} {to : TE} {ta : TA} {σ : L2.St} {H : Hp} {p : Addr} {g : Str → Option V} {z : Str} {d : V} (h : Ev to σ H (.ref p)) (hg : Xk.KHas K w p g) (ha : EvA ta σ H [.str z, d]) : Ev (Xk.tKGet K w to ta) σ H ((g z).getD d) :=
  fun H1 e Q q => h H1 e _ fun H2 e2 => ⟨p, g, rfl, hg, ha H2 (e.trans e2) _ fun H3 e3 => ⟨z, d, rfl, q H3 (e2.trans e3)⟩⟩
theorem ariV_get {x : Wd} : (ariV (S x)).getD (.int 0) = .int (((ari x).getD 0 : Nat) : Int) := by
  have e : (S x).cps.toList = x := rfl
  unfold ariV
  rw [e]
  cases ari x <;> rfl
theorem atI_last {α : Type} {xs : List α} {v : α} (h : xs.getLast? = some v) : atI xs (-1) = some v := by
  have hn : xs ≠ [] := fun z => by rw [z] at h; cases h
  have h1 : 1 ≤ xs.length := by cases xs with | nil => exact absurd rfl hn | cons a b => simp
  have hx : ixN xs.length (-1) = some (xs.length - 1) := by
    unfold ixN
    simp
    omega
  unfold atI
  rw [hx]
  show xs[xs.length - 1]? = some v
  rw [← List.getLast?_eq_getElem?]
  exact h
theorem getLast_refs {rs : List Rec} {is : List Nat} : (refs rs is).getLast? = is.getLast?.map fun i => .ref (R rs i).a := by
  unfold refs
  rw [List.getLast?_map]
theorem s_pop {K : PySem.W.Frag} {ta : TE} {σ : L2.St} {H : Hp} {p : Addr} {xs : List V} {y : V} {D : Ends} (h : Ev ta σ H (.ref p)) (hp : H p = some (.lst xs)) (hy : xs.getLast? = some y) (k : ∀ H1, Ex H H1 → D.nx σ (upd H1 p (.lst xs.dropLast))) : tDrop (tBM0 K "list" rPop ta) D σ H :=
  h H (Ex.refl H) _ fun H1 e1 => ⟨.inl ⟨rfl, _, SqL.of (e1 _ _ hp)⟩, p, xs, y, rfl, rfl, e1 _ _ hp, by rw [← List.getLast?_eq_getElem?]; exact hy, k H1 e1⟩
end K5
set_option Elab.async false
set_option linter.all false
set_option maxRecDepth 100000
set_option maxHeartbeats 4000000
namespace K5
open PySem PySem.Spec PyProof.Rows L2 Evl Xl SX Mi
theorem set_nth {ns : List Nd} {o j : Nat} {x : Nd} (hj : j < ns.length) (ho : o < ns.length) (p : Nd → Prop) (h1 : j ≠ o → p (nth ns j)) (h2 : j = o → p x) : p (nth (ns.set o x) j) := by
  rw [nth_set hj]
  by_cases e : o = j
  · rw [if_pos e]; exact h2 e.symm
  · rw [if_neg e]; exact h1 fun z => e z.symm
theorem addIn_len {ns : List Nd} {wt : List Nat} {i : Nat} : (addIn ns wt i).length = ns.length := by
  unfold addIn
  split <;> simp
theorem popM_sub {ns : List Nd} : ∀ {f : Nat} {wt : List Nat}, ∀ j ∈ popM ns f wt, j ∈ wt := by
  intro f
  induction f with
  | zero => intro wt j h; exact h
  | succ f ih =>
    intro wt j h
    unfold popM at h
    split at h
    · exact h
    · split at h
      · exact List.dropLast_subset _ (ih j h)
      · exact h
theorem popM_le {ns : List Nd} : ∀ {f : Nat} {wt : List Nat}, (popM ns f wt).length ≤ wt.length := by
  intro f
  induction f with
  | zero => intro wt; exact Nat.le_refl _
  | succ f ih =>
    intro wt
    unfold popM
    split
    · exact Nat.le_refl _
    · split
      · have := @ih wt.dropLast
        have h2 : wt.dropLast.length ≤ wt.length := by simp
        omega
      · exact Nat.le_refl _
section
variable {P : Program} {w : World} {K : PySem.W.Frag} {mg : Str → Option Value} {base : Heap} {f : Addr} {fd : FuncData}
/-! ### hang -/
def TW (rs : List Rec) (n : Nat) (wl : Addr) : Addr → Prop := fun c => c = wl ∨ ∃ j, j < n ∧ c = (R rs j).w
def spHang (C : Addr) : Sp := fun vs H Q _ => ∃ (nm : V) (rs : List Rec) (ns : List Nd) (wt : List Nat) (i : Nat) (wl : Addr), vs = [.ref (R rs i).a, .ref wl] ∧ Nds C nm rs ns H ∧ i < ns.length ∧ (∀ j ∈ wt, j < ns.length) ∧ H wl = some (.lst (refs rs wt)) ∧
  (∀ j, j < ns.length → (R rs j).w ≠ wl) ∧ wt.length ≤ 1000 ∧ (∀ j, j < ns.length → (nth ns j).within.length ≤ 1000) ∧
  ∀ H', Nds C nm rs (hangM ns wt i).1 H' → H' wl = some (.lst (refs rs (hangM ns wt i).2)) → Keep (TW rs ns.length wl) H H' → Q .non H'
theorem scH : FnScope ["node", "waiting"] ["node", "waiting"] (C8.fnScope (top 24)) := C8.fnScope_by (by decide +kernel)
theorem ok_hang {C : Addr} (F : C8.Def K mg "hang" (top 24) f fd) (b : Binds K fd ["node", "waiting"] []) (T : Txt2 K w mg) (N : NodeC K mg C) : C8.Cal P w K mg base 1 "hang" (spHang C) [] := by
  obtain ⟨pa, ma, ha⟩ := T.ari_
  refine C8.cal0 F b .nil scH (fun vs H Q E h => by obtain ⟨nm, rs, ns, wt, i, wl, rfl, _⟩ := h; rfl) (fun cdv A outer s H vs Q E hr h => ?_)
  obtain ⟨nm, rs, ns, wt, i, wl, rfl, hN, hi, hwt, hwl, hne, hl1, hl2, k⟩ := h
  refine ⟨_, pss_cut (ps_if (pt_truth (pv 1) (by intro _; rfl)) (pss_one (ps_expr (pe_bm PySem.F.plainAttrs_list PySem.F.slot_list_append PySem.F.type_list_append mt_append (pe_fld (pe_ix ix_list (pv 1) (pe_un un_neg pe_int) (fun _ _ => rfl)) rfl) (pa_cons (pv 0) pa_nil)))) pss_nil)
    (pss_cons (ps_expr (pe_bm PySem.F.plainAttrs_list PySem.F.slot_list_append PySem.F.type_list_append mt_append (pv 1) (pa_cons (pv 0) pa_nil)))
    (pss_one (ps_while PassesOwn.never (pw_and (pt_truth (pv 1) (by intro _; rfl)) (pw_and1 (pt_cmpR op_eq (pe_callB call_len_seq (by rfl) T.len_ boot_len (pa_cons (pe_fld (pe_ix ix_list (pv 1) (pe_un un_neg pe_int) (fun _ _ => rfl)) rfl) pa_nil))
        (Xk.pe_kget (pe_glob (v := .ref pa) (by rfl) ma rfl) (pa_cons (pe_fld (pe_ix ix_list (pv 1) (pe_un un_neg pe_int) (fun _ _ => rfl)) rfl) (pa_cons pe_int pa_nil))) (nomark _)))).pt
      (pss_one (ps_expr (pe_bm0 PySem.F.plainAttrs_list PySem.F.slot_list_pop PySem.F.type_list_pop mt_pop (pv 1))))))), ?_⟩
  have v0 : ∀ {G : Hp}, Ev (tVar 0) (start ["node", "waiting"] [V.ref (R rs i).a, .ref wl]) G (.ref (R rs i).a) := ev_var rfl
  have v1 : ∀ {G : Hp}, Ev (tVar 1) (start ["node", "waiting"] [V.ref (R rs i).a, .ref wl]) G (.ref wl) := ev_var rfl
  refine q_cut (M := fun σ G => σ = start ["node", "waiting"] [V.ref (R rs i).a, .ref wl] ∧ Nds C nm rs (addIn ns wt i) G ∧ G wl = some (.lst (refs rs wt)) ∧ Keep (TW rs ns.length wl) H G) ?_ ?_
  · refine s_when (b := !(refs rs wt).isEmpty) (et_truL v1 (sq_of hwl)) (fun hb H1 e1 => ?_) (fun hb H1 e1 => ?_)
    · cases ho : wt.getLast? with
      | none =>
        rw [List.getLast?_eq_none_iff] at ho
        rw [ho] at hb
        cases hb
      | some o =>
        have ho2 : o < ns.length := hwt o (List.mem_of_getLast? ho)
        have n := (hN.at_ o ho2).ins
        have nw := (hN.at_ o ho2).win
        have lt : (refs rs wt).getLast? = some (.ref (R rs o).a) := by rw [getLast_refs, ho]; rfl
        refine s_app (e1 _ _ nw) (ev_fld (ev_op v1 (ev_un ev_c ru_neg) (rv_ixL (sq_of (e1 _ _ hwl)) (atI_last lt))) (e1 _ _ n) N.cl N.n6 rfl) v0 (by unfold refs; rw [List.length_map]; have := hl2 o ho2; omega) fun H2 e2 => ⟨rfl, ?_, ?_, ?_⟩
        · have := (hN.ex (e1.trans e2)).setW ((nth ns o).within ++ [i]) ho2
          unfold addIn
          rw [ho]
          unfold refs at this ⊢
          rw [List.map_append] at this
          exact this
        · exact (upd_ne (hne o ho2).symm).trans ((e1.trans e2) _ _ hwl)
        · exact (Keep.of (e1.trans e2)).put (.inr ⟨o, ho2, rfl⟩)
    · have hz : wt = [] := by
        cases wt with
        | nil => rfl
        | cons a b => cases hb
      subst hz
      exact ⟨rfl, hN.ex e1, e1 _ _ hwl, Keep.of e1⟩
  · rintro σ' G ⟨rfl, hG, hGw, hK⟩
    have hlen : (addIn ns wt i).length = ns.length := addIn_len
    have hkeep : ∀ j, j < ns.length → (R rs j).w ≠ wl := hne
    refine q_app hGw v1 v0 (by unfold refs; rw [List.length_map]; omega) fun H1 e1 => ?_
    have hG1 : Nds C nm rs (addIn ns wt i) (upd H1 wl (.lst (refs rs wt ++ [.ref (R rs i).a]))) := (hG.ex e1).other (e1 _ _ hGw) fun j hj => hne j (hlen ▸ hj)
    have hK1 : Keep (TW rs ns.length wl) H (upd H1 wl (.lst (refs rs wt ++ [.ref (R rs i).a]))) := (hK.ex e1).put (.inl rfl)
    refine s_while (fun m σ G => σ = start ["node", "waiting"] [V.ref (R rs i).a, .ref wl] ∧ ∃ (wt' : List Nat) (f' : Nat), m = wt'.length ∧ wt'.length ≤ f' ∧ popM (addIn ns wt i) f' wt' = (hangM ns wt i).2 ∧ (∀ j ∈ wt', j < ns.length) ∧
      Nds C nm rs (addIn ns wt i) G ∧ G wl = some (.lst (refs rs wt')) ∧ Keep (TW rs ns.length wl) H G) (wt.length + 1) ?_ ?_
    · refine ⟨rfl, wt ++ [i], wt.length + 1, by simp, by simp, rfl, fun j hj => ?_, hG1, ?_, hK1⟩
      · rw [List.mem_append] at hj
        rcases hj with hj | hj
        · exact hwt j hj
        · simp at hj; rw [hj]; exact hi
      · rw [upd_same]
        unfold refs
        rw [List.map_append]
        rfl
    · rintro m σ' G' ⟨rfl, wt', f', rfl, hf, hp, hj, hN', hw', hK'⟩
      cases ho : wt'.getLast? with
      | none =>
        have hz : wt' = [] := by rwa [List.getLast?_eq_none_iff] at ho
        subst hz
        refine ⟨false, et_is (et_and (b := false) (et_truL v1 (sq_of hw')) fun z => (by cases z)) rfl, (fun z => (by cases z)), fun _ H2 e2 => k H2 (hN'.ex e2) ?_ (hK'.ex e2)⟩
        have : popM (addIn ns wt i) f' [] = [] := by cases f' <;> rfl
        rw [← hp, this]
        exact e2 _ _ hw'
      | some o =>
        have ho2 : o < ns.length := hj o (List.mem_of_getLast? ho)
        have n := (hN'.at_ o (hlen ▸ ho2)).ins
        have nw := (hN'.at_ o (hlen ▸ ho2)).win
        have lt : (refs rs wt').getLast? = some (.ref (R rs o).a) := by rw [getLast_refs, ho]; rfl
        have he : wt' ≠ [] := fun z => by rw [z] at ho; cases ho
        have hne' : (!(refs rs wt').isEmpty) = true := by
          cases wt' with
          | nil => exact absurd rfl he
          | cons a b => rfl
        have fu : decide ((V.int ((refs rs (nth (addIn ns wt i) o).within).length : Int)) = V.int (((ari (nth (addIn ns wt i) o).kind).getD 0 : Nat) : Int)) = full (addIn ns wt i) o := by
          unfold full
          refine decide_eq_decide.mpr ⟨fun z => ?_, fun z => ?_⟩
          · have z2 := V.int.inj z
            unfold refs at z2
            rw [List.length_map] at z2
            exact Int.ofNat.inj z2
          · unfold refs
            rw [List.length_map, z]
        have vx : Ev (tOp (rIxL K) (tVar 1) (tUn (rU fun i => V.int (-i)) (tC (V.int 1)))) (start ["node", "waiting"] [V.ref (R rs i).a, .ref wl]) G' (.ref (R rs o).a) := ev_op v1 (ev_un ev_c ru_neg) (rv_ixL (sq_of hw') (atI_last lt))
        refine ⟨full (addIn ns wt i) o, et_is (et_and (b := full (addIn ns wt i) o) (et_truL v1 (sq_of hw')) fun _ => et_is (et_test (ev_op (ev_len (ev_fld vx n N.cl N.n6 rfl) (sq_of nw)) (ev_is (ev_kget ev_c ha (ea_cons (ev_fld vx n N.cl N.n3 rfl) (ea_cons ev_c ea_nil))) ariV_get) (rv_eq rfl))) fu) (by rw [hne']; rfl), fun hb H2 e2 => ?_, fun hb H2 e2 => k H2 (hN'.ex e2) ?_ (hK'.ex e2)⟩
        · refine ⟨_, fun _ _ z => z, s_pop v1 (e2 _ _ hw') lt fun H3 e3 => ?_⟩
          have h1 : 1 ≤ wt'.length := by cases wt' with | nil => exact absurd rfl he | cons a b => simp
          refine ⟨wt'.dropLast.length, by rw [List.length_dropLast]; omega, rfl, wt'.dropLast, f' - 1, rfl, by rw [List.length_dropLast]; omega, ?_, fun j hj' => hj j (List.dropLast_subset _ hj'), (hN'.ex (e2.trans e3)).other ((e2.trans e3) _ _ hw') fun j hj' => hne j (hlen ▸ hj'), ?_, (hK'.ex (e2.trans e3)).put (.inl rfl)⟩
          · rw [← hp]
            obtain ⟨g, rfl⟩ : ∃ g, f' = g + 1 := ⟨f' - 1, by omega⟩
            conv => rhs; unfold popM
            rw [ho]
            simp only [hb, if_true, Nat.add_sub_cancel]
          · rw [upd_same]
            unfold refs
            rw [← List.map_dropLast]
        · have : popM (addIn ns wt i) f' wt' = wt' := by
            cases f' with
            | zero => rfl
            | succ g =>
              unfold popM
              rw [ho]
              simp only [hb, Bool.false_eq_true, if_false]
          rw [← hp, this]
          exact e2 _ _ hw'
end
end K5
set_option Elab.async false
set_option linter.all false
set_option maxRecDepth 100000
set_option maxHeartbeats 4000000
namespace K5
open PySem PySem.Spec PyProof.Rows L2 Evl Xl SX Mi
theorem s_fld {K : PySem.W.Frag} {ta te : TE} {σ : L2.St} {H : Hp} {f : Str} {a C dx : Addr} {fs : List (Str × V)} {v : V} {D : Ends} (ha : H a = some (.ins C dx fs)) (h0 : Ev ta σ H (.ref a)) (h : Ev te σ H v) (hc : Cls K C) (hn : NoAttr K C f) (hl : fs.length < 1000)
    (k : ∀ H1, Ex H H1 → D.nx σ (upd H1 a (.ins C dx (putF f v fs)))) : sFld K ta te f D σ H :=
  h H (Ex.refl H) _ fun H1 e1 => h0 H1 e1 _ fun H2 e2 => ⟨a, C, dx, fs, rfl, e2 _ _ (e1 _ _ ha), hc, hn, hl, k H2 (e1.trans e2)⟩
theorem climb_non {ns : List Nd} {sg : Wd} {m b : Nat} : climb ns sg m b none = none := by cases m <;> rfl
theorem et_nn {te : TE} {σ : L2.St} {H : Hp} (h : Ev te σ H .non) : EvT (tB (tNotN te)) σ H false := et_B (ev_is (ev_notN h) (by simp))
theorem et_nr {te : TE} {σ : L2.St} {H : Hp} {a : Addr} (h : Ev te σ H (.ref a)) : EvT (tB (tNotN te)) σ H true := et_B (ev_is (ev_notN h) (by simp))
theorem et_in {te : TE} {σ : L2.St} {H : Hp} (h : Ev te σ H .non) : EvT (tB (tIsN te)) σ H true := et_B (ev_is (ev_isN h) (by simp))
theorem et_ir {te : TE} {σ : L2.St} {H : Hp} {a : Addr} (h : Ev te σ H (.ref a)) : EvT (tB (tIsN te)) σ H false := et_B (ev_is (ev_isN h) (by simp))
section
variable {P : Program} {w : World} {K : PySem.W.Frag} {mg : Str → Option Value} {base : Heap} {f : Addr} {fd : FuncData}
/-! ### bind -/
structure Wf (ns : List Nd) : Prop where
  out : ∀ i, i < ns.length → ∀ o, (nth ns i).outer = some o → o < i ∧ (nth ns o).within ≠ []
  win : ∀ i, i < ns.length → ∀ j ∈ (nth ns i).within, j < ns.length
def spBind (C : Addr) : Sp := fun vs H Q _ => ∃ (nm : V) (rs : List Rec) (ns : List Nd) (i : Nat), vs = [.ref (R rs i).a] ∧ Nds C nm rs ns H ∧ Wf ns ∧ i < ns.length ∧ (nth ns i).binder = none ∧
  ∀ H', Nds C nm rs (ns.set i (bindM ns i)) H' → Keep (fun c => c = (R rs i).a) H H' → Q .non H'
theorem scB : FnScope ["node", "below", "above"] ["node"] (C8.fnScope (top 25)) := C8.fnScope_by (by decide +kernel)
theorem ok_bind {C : Addr} (F : C8.Def K mg "bind" (top 25) f fd) (b : Binds K fd ["node"] []) (T : Txt2 K w mg) (N : NodeC K mg C) : C8.Cal P w K mg base 1 "bind" (spBind C) [] := by
  refine C8.cal0 F b .nil scB (fun vs H Q E h => by obtain ⟨nm, rs, ns, i, rfl, _⟩ := h; rfl) (fun cdv A outer s H vs Q E hr h => ?_)
  obtain ⟨nm, rs, ns, i, rfl, hN, hW, hi, hb, k⟩ := h
  refine ⟨_, pss_cons (ps_set (i := 1) scB.nd rfl (Or.inl rfl) (pv 0)) (pss_cons (ps_set (i := 2) scB.nd rfl (Or.inl rfl) (pe_fld (pv 0) rfl))
    (pss_cons (ps_while PassesOwn.never (pw_and (pt_cmp (pc_notN (pv 2))) (pw_and1 (pt_cmp (pc_isN (pe_fld (pv 0) rfl))))).pt
      (pss_cons (ps_if (pw_and (pt_cmpR op_eq (pe_fld (pv 2) rfl) (pe_fld (pv 0) rfl) (nomark _)) (pw_and1 (pt_cmpR (Xq.op_eqI (Nat.lt_of_le_of_lt (Nat.le_trans (Nat.le_add_right _ _) (Nat.le_add_right _ _)) hr.un)) (pe_ix ix_list (pe_fld (pv 2) rfl) (pe_un un_neg pe_int) (fun _ _ => rfl)) (pv 1) (nomark _)))).pt
          (pss_one (ps_fld (pv 0) (pv 2) rfl)) pss_nil)
        (pss_cons (ps_set (i := 1) scB.nd rfl (Or.inl rfl) (pv 2)) (pss_one (ps_set (i := 2) scB.nd rfl (Or.inl rfl) (pe_fld (pv 2) rfl))))))
    (pss_one (ps_if (pt_cmp (pc_isN (pe_fld (pv 0) rfl))) (pss_one (ps_fld (pv 0) pe_str rfl)) pss_nil)))), ?_⟩
  have hbind : bindM ns i = match climb ns (nth ns i).sign (i + 1) i (nth ns i).outer with
      | some a => { nth ns i with binder := some a }
      | none => { nth ns i with kind := [112, 97, 114, 116] } := rfl
  generalize hc : climb ns (nth ns i).sign (i + 1) i (nth ns i).outer = res at hbind
  have n0 := (hN.at_ i hi).ins
  have v0 : ∀ {x y : Option V} {G : Hp}, Ev (tVar 0) ([some (.ref (R rs i).a), x, y] : L2.St) G (.ref (R rs i).a) := ev_var rfl
  have v1 : ∀ {x : Option V} {y : V} {z : Option V} {G : Hp}, Ev (tVar 1) ([x, some y, z] : L2.St) G y := ev_var rfl
  have v2 : ∀ {x y : Option V} {z : V} {G : Hp}, Ev (tVar 2) ([x, y, some z] : L2.St) G z := ev_var rfl
  refine q_asg (v := .ref (R rs i).a) (ev_var rfl) fun H1 e1 => ?_
  refine q_asg (v := oref rs (nth ns i).outer) (ev_fld (ev_var rfl) (e1 _ _ n0) N.cl N.n5 rfl) fun H2 e2 => ?_
  refine q_while (fun m σ G =>
      (∃ (b : Nat) (oa : Option Nat), b < ns.length ∧ σ = [some (.ref (R rs i).a), some (.ref (R rs b).a), some (oref rs oa)] ∧ Nds C nm rs ns G ∧ Keep (fun c => c = (R rs i).a) H G ∧ climb ns (nth ns i).sign m b oa = res ∧ ∀ a, oa = some a → a < m ∧ a < ns.length ∧ (nth ns a).within ≠ []) ∨
      (∃ (a : Nat) (x y : V), m = 0 ∧ σ = [some (.ref (R rs i).a), some x, some y] ∧ res = some a ∧ Nds C nm rs (ns.set i { nth ns i with binder := some a }) G ∧ Keep (fun c => c = (R rs i).a) H G)) (i + 1) ?_ ?_
  · exact .inl ⟨i, _, hi, rfl, hN.ex (e1.trans e2), Keep.of (e1.trans e2), hc, fun a e => by
      have := hW.out i hi a e
      exact ⟨by omega, by omega, this.2⟩⟩
  · rintro m σ' G (⟨b, oa, hbl, rfl, hG, hK, hcl, hoa⟩ | ⟨a, x, y, rfl, rfl, hres, hG, hK⟩)
    · have n := (hG.at_ i hi).ins
      cases oa with
      | none =>
        rw [climb_non] at hcl
        subst hcl
        refine ⟨false, et_is (et_and (b := false) (et_nn v2) (fun z => (by cases z))) rfl, (fun z => (by cases z)), fun _ H3 e3 => ?_⟩
        refine s_when (b := true) (et_in (ev_fld v0 (e3 _ _ n) N.cl N.n7 (by rw [hb]; rfl))) (fun _ H4 e4 => ?_) (fun z => (by cases z))
        refine s_fld (e4 _ _ (e3 _ _ n)) v0 ev_c N.cl N.n3 (by show 8 < 1000; decide) fun H5 e5 => ?_
        have g := (hG.ex ((e3.trans e4).trans e5)).setN { nth ns i with kind := [112, 97, 114, 116] } hi rfl rfl
        rw [show S [112, 97, 114, 116] = ("part" : Str) by decide] at g
        refine k _ ?_ ((hK.ex ((e3.trans e4).trans e5)).put rfl)
        rw [hbind]
        exact g
      | some a =>
        obtain ⟨ha1, ha2, ha3⟩ := hoa a rfl
        obtain ⟨g, rfl⟩ : ∃ g, m = g + 1 := ⟨m - 1, by omega⟩
        have na := (hG.at_ a ha2).ins
        have nw := (hG.at_ a ha2).win
        have nb := (hG.at_ b hbl).ins
        obtain ⟨x, hx⟩ : ∃ x, (nth ns a).within.getLast? = some x := by
          cases z : (nth ns a).within.getLast? with
          | none => exact absurd (List.getLast?_eq_none_iff.mp z) ha3
          | some x => exact ⟨x, rfl⟩
        have hxl : x < ns.length := hW.win a ha2 x (List.mem_of_getLast? hx)
        have nx := (hG.at_ x hxl).ins
        have lt : (refs rs (nth ns a).within).getLast? = some (.ref (R rs x).a) := by rw [getLast_refs, hx]; rfl
        have hd : decide ((R rs x).a = (R rs b).a) = decide ((nth ns a).within.getLast? = some b) := by
          rw [hx]
          refine decide_eq_decide.mpr ⟨fun z => ?_, fun z => ?_⟩
          · rw [hG.ia x b hxl hbl z]
          · cases z; rfl
        refine ⟨true, et_is (et_and (b := true) (et_nr (a := (R rs a).a) v2) (fun _ => et_in (ev_fld v0 n N.cl N.n7 (by rw [hb]; rfl)))) rfl, (fun _ H3 e3 => ?_), (fun z => (by cases z))⟩
        refine ⟨_, fun _ _ z => z, ?_⟩
        refine q_when (b := decide ((nth ns a).named = (nth ns i).sign) && decide ((nth ns a).within.getLast? = some b)) (et_and (et_is (et_test (ev_op (ev_fld v2 (e3 _ _ na) N.cl N.n4 rfl) (ev_fld v0 (e3 _ _ n) N.cl N.n2 rfl) (rv_eq rfl))) S_eqc)
          fun _ => et_is (et_test (ev_op (ev_op (ev_fld v2 (e3 _ _ na) N.cl N.n6 rfl) (ev_un ev_c ru_neg) (rv_ixL (sq_of (e3 _ _ nw)) (atI_last lt))) v1 fun G1 d1 Q' q => ⟨_, _, C, _, _, _, _, rfl, rfl, d1 _ _ (e3 _ _ nx), d1 _ _ (e3 _ _ nb), N.eq, q G1 (Ex.refl G1)⟩)) hd)
          (fun hm H4 e4 => ?_) (fun hm H4 e4 => ?_)
        · have hm2 : (nth ns a).named = (nth ns i).sign ∧ (nth ns a).within.getLast? = some b := by simpa using hm
          have hr2 : res = some a := by
            rw [← hcl]
            unfold climb
            rw [if_pos hm2]
          refine s_fld (e4 _ _ (e3 _ _ n)) v0 v2 N.cl N.n7 (by show 8 < 1000; decide) fun H5 e5 => ?_
          have gg := (hG.ex ((e3.trans e4).trans e5)).setN { nth ns i with binder := some a } hi rfl rfl
          have kk := (hK.ex ((e3.trans e4).trans e5)).put (o := .ins C (R rs i).dx (nfL (R rs i).t (S (nth ns i).sign) (S (nth ns i).kind) (S (nth ns i).named) (oref rs (nth ns i).outer) (R rs i).w (oref rs (some a)) (nth ns i).level)) (rfl : (R rs i).a = (R rs i).a)
          have na2 := (gg.at_ a (by simp; exact ha2)).ins
          refine q_asg v2 fun H6 e6 => ?_
          refine s_asg (ev_fld v2 (e6 _ _ na2) N.cl N.n5 rfl) fun H7 e7 => ?_
          exact ⟨0, by omega, .inr ⟨a, _, _, rfl, rfl, hr2, gg.ex (e6.trans e7), kk.ex (e6.trans e7)⟩⟩
        · have hm2 : ¬ ((nth ns a).named = (nth ns i).sign ∧ (nth ns a).within.getLast? = some b) := by simpa using hm
          refine q_asg v2 fun H6 e6 => ?_
          refine s_asg (ev_fld v2 (e6 _ _ (e4 _ _ (e3 _ _ na))) N.cl N.n5 rfl) fun H7 e7 => ?_
          have eg := ((e3.trans e4).trans e6).trans e7
          refine ⟨g, by omega, .inl ⟨a, (nth ns a).outer, ha2, rfl, hG.ex eg, hK.ex eg, ?_, fun c hc' => ?_⟩⟩
          · rw [← hcl]
            conv => rhs; unfold climb
            rw [if_neg hm2]
          · have := hW.out a ha2 c hc'
            exact ⟨by omega, by omega, this.2⟩
    · have n := (hG.at_ i (by simp; exact hi)).ins
      have hs : (nth (ns.set i { nth ns i with binder := some a }) i).binder = some a := by rw [nth_set hi, if_pos rfl]
      refine ⟨false, et_is (et_and (b := false) (et_B (ev_is (ev_notN v2) (show V.bl (!decide (y = .non)) = V.bl (!decide (y = .non)) from rfl))) (fun _ => et_ir (a := (R rs a).a) (ev_fld v0 n N.cl N.n7 (by rw [hs]; rfl)))) (Bool.and_false _), (fun z => (by cases z)), fun _ H3 e3 => ?_⟩
      refine s_when (b := false) (et_ir (a := (R rs a).a) (ev_fld v0 (e3 _ _ n) N.cl N.n7 (by rw [hs]; rfl))) (fun z => (by cases z)) (fun _ H4 e4 => ?_)
      refine k _ ?_ (hK.ex (e3.trans e4))
      rw [hbind, hres]
      exact hG.ex (e3.trans e4)
end
end K5
set_option Elab.async false
set_option linter.all false
set_option maxRecDepth 100000
set_option maxHeartbeats 4000000
namespace K5
open PySem PySem.Spec PyProof.Rows L2 Evl Xl SX Mi
theorem R_app {rs : List Rec} {r : Rec} {i : Nat} (h : i < rs.length) : R (rs ++ [r]) i = R rs i := by
  unfold R
  simp [List.getD_eq_getElem?_getD, List.getElem?_append_left h]
theorem R_new {rs : List Rec} {r : Rec} : R (rs ++ [r]) rs.length = r := by
  unfold R
  simp [List.getD_eq_getElem?_getD]
theorem nth_app {ns : List Nd} {r : Nd} {i : Nat} (h : i < ns.length) : nth (ns ++ [r]) i = nth ns i := by
  unfold nth
  simp [List.getD_eq_getElem?_getD, List.getElem?_append_left h]
theorem nth_new {ns : List Nd} {r : Nd} : nth (ns ++ [r]) ns.length = r := by
  unfold nth
  simp [List.getD_eq_getElem?_getD]
theorem refs_app {rs : List Rec} {r : Rec} {is : List Nat} (h : ∀ j ∈ is, j < rs.length) : refs (rs ++ [r]) is = refs rs is := by
  unfold refs
  refine List.map_congr_left fun j hj => ?_
  rw [R_app (h j hj)]
theorem oref_app {rs : List Rec} {r : Rec} {o : Option Nat} (h : ∀ j, o = some j → j < rs.length) : oref (rs ++ [r]) o = oref rs o := by
  cases o with
  | none => rfl
  | some j => show V.ref _ = V.ref _; rw [R_app (h j rfl)]
theorem Nds.add {C : Addr} {nm : V} {rs : List Rec} {ns : List Nd} {G : Hp} (h : Nds C nm rs ns G) (wf : Wf ns) (bn : ∀ i, i < ns.length → (nth ns i).binder = none) (x : Nd) (r : Rec) (hx : NodeAt C nm rs G r x) (xo : ∀ j, x.outer = some j → j < ns.length) (xb : x.binder = none) (xw : x.within = [])
    (fa : ∀ i, i < ns.length → (R rs i).a ≠ r.a) (fw : ∀ i, i < ns.length → (R rs i).w ≠ r.w) : Nds C nm (rs ++ [r]) (ns ++ [x]) G := by
  have hl := h.len
  have spl : ∀ i, i < (ns ++ [x]).length → i < ns.length ∨ i = ns.length := fun i hi => by simp at hi; omega
  have rn : R (rs ++ [r]) ns.length = r := by rw [← hl]; exact R_new
  refine ⟨by simp [hl], fun i hi => ?_, fun i j hi hj e => ?_, fun i j hi hj e => ?_⟩
  · rcases spl i hi with hi | rfl
    · rw [R_app (hl ▸ hi), nth_app hi]
      have n := h.at_ i hi
      refine ⟨?_, n.tup, ?_⟩
      · rw [oref_app fun j e => by have := wf.out i hi j e; omega, oref_app fun j e => by rw [bn i hi] at e; cases e]
        exact n.ins
      · rw [refs_app fun j e => by have := wf.win i hi j e; omega]
        exact n.win
    · rw [rn, nth_new]
      refine ⟨?_, hx.tup, ?_⟩
      · rw [oref_app fun j e => by have := xo j e; omega, oref_app fun j e => by rw [xb] at e; cases e]
        exact hx.ins
      · rw [refs_app fun j e => by rw [xw] at e; cases e]
        exact hx.win
  · rcases spl i hi with hi | rfl <;> rcases spl j hj with hj | rfl
    · rw [R_app (hl ▸ hi), R_app (hl ▸ hj)] at e
      exact h.ia i j hi hj e
    · rw [R_app (hl ▸ hi), rn] at e
      exact absurd e (fa i hi)
    · rw [R_app (i := j) (hl ▸ hj), rn] at e
      exact absurd e.symm (fa j hj)
    · rfl
  · rcases spl i hi with hi | rfl <;> rcases spl j hj with hj | rfl
    · rw [R_app (hl ▸ hi), R_app (hl ▸ hj)] at e
      exact h.iw i j hi hj e
    · rw [R_app (hl ▸ hi), rn] at e
      exact absurd e (fw i hi)
    · rw [R_app (i := j) (hl ▸ hj), rn] at e
      exact absurd e.symm (fw j hj)
    · rfl
/-- what hang leaves of each node -/
theorem addIn_nth {ns : List Nd} {wt : List Nat} {i j : Nat} (hj : j < ns.length) : nth (addIn ns wt i) j = if wt.getLast? = some j then { nth ns j with within := (nth ns j).within ++ [i] } else nth ns j := by
  unfold addIn
  cases h : wt.getLast? with
  | none => rfl
  | some o =>
    show nth (ns.set o { nth ns o with within := (nth ns o).within ++ [i] }) j = _
    rw [nth_set hj]
    by_cases e : o = j
    · subst e; simp
    · rw [if_neg e, if_neg (fun z => e (Option.some.inj z))]
theorem wf_hang {ns : List Nd} {wt : List Nat} {x : Nd} (wf : Wf ns) (hw : ∀ j ∈ wt, j < ns.length) (xo : x.outer = wt.getLast?) (xw : x.within = []) : Wf (addIn (ns ++ [x]) wt ns.length) := by
  have hl : (addIn (ns ++ [x]) wt ns.length).length = ns.length + 1 := by rw [addIn_len]; simp
  have lst : ∀ o, wt.getLast? = some o → o < ns.length := fun o e => hw o (List.mem_of_getLast? e)
  have ou : ∀ j, j < ns.length + 1 → (nth (addIn (ns ++ [x]) wt ns.length) j).outer = (nth (ns ++ [x]) j).outer := fun j hj => by
    rw [addIn_nth (by simp; exact hj)]
    split <;> rfl
  have wi : ∀ j, j < ns.length + 1 → (nth (addIn (ns ++ [x]) wt ns.length) j).within = if wt.getLast? = some j then (nth (ns ++ [x]) j).within ++ [ns.length] else (nth (ns ++ [x]) j).within := fun j hj => by
    rw [addIn_nth (by simp; exact hj)]
    split <;> rfl
  refine ⟨fun i hi o e => ?_, fun i hi j hj => ?_⟩
  · rw [hl] at hi
    rw [ou i hi] at e
    by_cases z : i < ns.length
    · rw [nth_app z] at e
      have := wf.out i z o e
      refine ⟨this.1, ?_⟩
      rw [wi o (by omega)]
      split
      · simp
      · rw [nth_app (by omega)]; exact this.2
    · have z2 : i = ns.length := by omega
      subst z2
      rw [nth_new, xo] at e
      have := lst o e
      refine ⟨this, ?_⟩
      rw [wi o (by omega), if_pos e]
      simp
  · rw [hl] at hi ⊢
    rw [wi i hi] at hj
    have base : ∀ j ∈ (nth (ns ++ [x]) i).within, j < ns.length + 1 := fun j hj => by
      by_cases z : i < ns.length
      · rw [nth_app z] at hj
        have := wf.win i z j hj
        omega
      · have z2 : i = ns.length := by omega
        subst z2
        rw [nth_new, xw] at hj
        cases hj
    split at hj
    · rw [List.mem_append] at hj
      rcases hj with hj | hj
      · exact base j hj
      · simp at hj; omega
    · exact base j hj
theorem nameOk_len {x : Wd} (h : nameOk x = true) : x.length ≤ 8 := by
  unfold nameOk at h
  simp at h
  omega
theorem readNd_facts {ws : List Wd} {at_ : Nat} {o : Option Nat} {lv : Nat} {nd : Nd} (h : readNd ws at_ o lv = some nd) : nd.named.length ≤ 8 ∧ nd.outer = o ∧ nd.within = [] ∧ nd.binder = none ∧ nd.at_ = at_ ∧ nd.level = lv := by
  have fr : ∀ x : Wd, okFree x = true → x.length ≤ 8 := fun x hx => by
    unfold okFree at hx
    simp only [Bool.and_eq_true] at hx
    exact nameOk_len hx.1.1
  unfold readNd at h
  simp only at h
  generalize (if at_ + 1 < ws.length then ws.getD (at_ + 1) [] else []) = nmw at h
  split at h
  · cases h
  · split at h
    · split at h
      · split at h
        · cases h
          exact ⟨fr _ (by assumption), rfl, rfl, rfl, rfl, rfl⟩
        · cases h
      · cases h
        exact ⟨by simp [mkNd], rfl, rfl, rfl, rfl, rfl⟩
    · split at h
      · cases h
        exact ⟨by simp [mkNd], rfl, rfl, rfl, rfl, rfl⟩
      · split at h
        · cases h
          exact ⟨by simp [mkNd], rfl, rfl, rfl, rfl, rfl⟩
        · cases h
end K5
set_option Elab.async false
set_option linter.all false
set_option maxRecDepth 100000
set_option maxHeartbeats 4000000
namespace K5
open PySem PySem.Spec PyProof.Rows L2 Evl Xl SX Mi
theorem bindTo_len : ∀ {k : Nat} {ns : List Nd}, (bindTo k ns).length = ns.length := by
  intro k
  induction k with
  | zero => intro ns; rfl
  | succ k ih =>
    intro ns
    unfold bindTo
    simp only
    split
    · rw [List.length_set]; exact ih
    · exact ih
theorem bindM_same {ns : List Nd} {i : Nat} : (Mi.bindM ns i).outer = (nth ns i).outer ∧ (Mi.bindM ns i).within = (nth ns i).within ∧ (Mi.bindM ns i).at_ = (nth ns i).at_ ∧ (Mi.bindM ns i).named = (nth ns i).named ∧ (Mi.bindM ns i).sign = (nth ns i).sign := by
  unfold Mi.bindM
  split <;> exact ⟨rfl, rfl, rfl, rfl, rfl⟩
theorem bindTo_over : ∀ {k j : Nat} {ns : List Nd}, k ≤ j → j < ns.length → nth (bindTo k ns) j = nth ns j := by
  intro k
  induction k with
  | zero => intro j ns _ _; rfl
  | succ k ih =>
    intro j ns h hj
    unfold bindTo
    simp only
    split
    · rw [nth_set (by rw [bindTo_len]; exact hj), if_neg (by omega)]
      exact ih (by omega) hj
    · exact ih (by omega) hj
theorem bindTo_same : ∀ {k j : Nat} {ns : List Nd}, j < ns.length → (nth (bindTo k ns) j).outer = (nth ns j).outer ∧ (nth (bindTo k ns) j).within = (nth ns j).within ∧ (nth (bindTo k ns) j).at_ = (nth ns j).at_ ∧ (nth (bindTo k ns) j).named = (nth ns j).named ∧ (nth (bindTo k ns) j).sign = (nth ns j).sign := by
  intro k
  induction k with
  | zero => intro j ns _; exact ⟨rfl, rfl, rfl, rfl, rfl⟩
  | succ k ih =>
    intro j ns hj
    unfold bindTo
    simp only
    split
    · rw [nth_set (by rw [bindTo_len]; exact hj)]
      by_cases e : k = j
      · subst e
        rw [if_pos rfl]
        have := @bindM_same (bindTo k ns) k
        have h2 := @ih k ns hj
        exact ⟨this.1.trans h2.1, this.2.1.trans h2.2.1, this.2.2.1.trans h2.2.2.1, this.2.2.2.1.trans h2.2.2.2.1, this.2.2.2.2.trans h2.2.2.2.2⟩
      · rw [if_neg e]
        exact ih hj
    · exact ih hj
theorem wf_bindTo {ns : List Nd} {k : Nat} (wf : Wf ns) : Wf (bindTo k ns) := by
  refine ⟨fun i hi o e => ?_, fun i hi j hj => ?_⟩
  · rw [bindTo_len] at hi
    rw [(bindTo_same hi).1] at e
    have := wf.out i hi o e
    refine ⟨this.1, ?_⟩
    rw [(bindTo_same (by omega)).2.1]
    exact this.2
  · rw [bindTo_len] at hi ⊢
    rw [(bindTo_same hi).2.1] at hj
    exact wf.win i hi j hj
theorem q_read {C t0 wd : Addr} {E : XK} {ta tb tc td : TE} {σ : L2.St} {H : Hp} {nm ov : V} {at_ lv : Nat} {o : Option Nat} {ws : List Wd} {i : Nat} {D : Ends} {tz : TS} (ha : Ev ta σ H nm) (hb : Ev tb σ H (.int at_)) (hc : Ev tc σ H (.ref wd)) (hd : Ev td σ H ov)
    (hwd : H wd = some (.lst (ws.map fun x => .str (S x)))) (ho : OutV C H ov lv) (hat : at_ < ws.length) (hlen : ws.length ≤ 200) (hxs : ∀ x ∈ ws, x.length ≤ 9000)
    (k0 : readNd ws at_ o lv = none → ∀ H1, Ex H H1 → tz D (σ.set i (some .non)) H1)
    (k1 : ∀ nd, readNd ws at_ o lv = some nd → ∀ (p dx t wi : Addr) (H1 : Hp), Ex H H1 → H p = none → H wi = none → H1 p = some (.ins C dx (nfL t (S nd.sign) (S nd.kind) (S nd.named) ov wi .non nd.level)) → H1 t = some (.tup [nm, .int at_]) → H1 wi = some (.lst []) → tz D (σ.set i (some (.ref p))) H1) :
    tSeq (tAsg (tCall (spRead C) [] E (tCons (tTup (tCons ta (tCons tb tNil))) (tCons tc (tCons td tNil)))) (gName i)) tz D σ H := by
  refine ha H (Ex.refl H) _ fun H1 e1 => hb H1 e1 _ fun H2 e2 => ⟨by show 2 ≤ sizeLine; rw [sizeLine_eq]; omega, fun t ht => ?_⟩
  have x0 : Ex H (upd H2 t (.tup [nm, .int at_])) := (e1.trans e2).trans (ex_put ht (Ex.refl H2))
  have st : (upd H2 t (.tup [nm, .int at_])) t = some (.tup [nm, .int at_]) := upd_same
  refine hc _ x0 _ fun H3 e3 => hd H3 (x0.trans e3) _ fun H4 e4 => ?_
  have x4 := (x0.trans e3).trans e4
  exact ⟨t, wd, nm, at_, ws, ov, o, lv, rfl, e4 _ _ (e3 _ _ st), x4 _ _ hwd, outV_up ho x4, hat, hlen, hxs, fun z H5 e5 => k0 z H5 (x4.trans e5), fun nd z p dx wi H5 e5 hp hw h1 h2 => k1 nd z p dx t wi H5 (x4.trans e5) (fresh_back x4 hp) (fresh_back x4 hw) h1 (e5 _ _ (e4 _ _ (e3 _ _ st))) h2⟩
theorem q_callD {sp : Sp} {dvs vs : List V} {E : XK} {ta : TA} {σ : L2.St} {H : Hp} {D : Ends} {tz : TS} (h : EvA ta σ H vs) (k : ∀ H1, Ex H H1 → sp (vs ++ dvs) H1 (fun _ H2 => tz D σ H2) E) : tSeq (tDrop (tCall sp dvs E ta)) tz D σ H :=
  h H (Ex.refl H) _ fun H1 e1 => k H1 e1
theorem s_callD {sp : Sp} {dvs vs : List V} {E : XK} {ta : TA} {σ : L2.St} {H : Hp} {D : Ends} (h : EvA ta σ H vs) (k : ∀ H1, Ex H H1 → sp (vs ++ dvs) H1 (fun _ H2 => D.nx σ H2) E) : tDrop (tCall sp dvs E ta) D σ H :=
  h H (Ex.refl H) _ fun H1 e1 => k H1 e1
theorem et_truS {K : PySem.W.Frag} {ta : TE} {σ : L2.St} {H : Hp} {x : Wd} (h : Ev ta σ H (.str (S x))) (hl : x.length ≤ 9000) : EvT (fun σ H Q => ta σ H fun x H' => ∃ k, TruV K x H' k ∧ Q k H') σ H (decide (x ≠ [])) :=
  fun H1 e Q q => h H1 e _ fun H2 e2 => ⟨decide (x ≠ []), ⟨by rw [S_len, sizeLine_eq]; omega, by rw [S_len]; cases x <;> simp; omega⟩, q H2 e2⟩
/-- the state of the reading at a turn -/
structure LI (C : Addr) (nm : V) (ws : List Wd) (res : Option (List Nd × List Nat)) (H0 G : Hp) (nl wl : Addr) (rs : List Rec) (ns : List Nd) (wt : List Nat) (at_ : Nat) : Prop where
  fu : ∃ f, ws.length - at_ < f ∧ loopM ws f ns wt at_ = res
  nds : Nds C nm rs ns G
  wf : Wf ns
  bn : ∀ i, i < ns.length → (nth ns i).binder = none
  wti : ∀ j ∈ wt, j < ns.length
  wtl : wt.length ≤ ns.length
  wil : ∀ i, i < ns.length → (nth ns i).within.length ≤ ns.length
  nle : ns.length ≤ at_
  atl : at_ ≤ ws.length + 1
  gn : G nl = some (.lst (refs rs (List.range ns.length)))
  gw : G wl = some (.lst (refs rs wt))
  ne : nl ≠ wl
  nw : ∀ i, i < ns.length → (R rs i).w ≠ wl ∧ (R rs i).w ≠ nl
  ex : Ex H0 G
  f1 : H0 nl = none
  f2 : H0 wl = none
  f3 : ∀ i, i < ns.length → H0 (R rs i).a = none ∧ H0 (R rs i).w = none
theorem LI.outV {C : Addr} {nm : V} {ws : List Wd} {res : Option (List Nd × List Nat)} {H0 G : Hp} {nl wl : Addr} {rs : List Rec} {ns : List Nd} {wt : List Nat} {at_ : Nat} (h : LI C nm ws res H0 G nl wl rs ns wt at_) : OutV C G (oref rs wt.getLast?) (lvlOf ns wt.getLast? : Nat) := by
  cases z : wt.getLast? with
  | none => exact .inl ⟨rfl, rfl⟩
  | some o =>
    have ho := h.wti o (List.mem_of_getLast? z)
    exact .inr ⟨(R rs o).a, _, _, (nth ns o).level, rfl, (h.nds.at_ o ho).ins, rfl, by show ((_ + 1 : Nat) : Int) = _; push_cast; rfl⟩
section
variable {P : Program} {w : World} {K : PySem.W.Frag} {mg : Str → Option Value} {base : Heap} {f : Addr} {fd : FuncData}
def spExpr (C : Addr) : Sp := fun vs H Q _ => ∃ (wd : Addr) (nm : V) (ws : List Wd) (start : Nat), vs = [nm, .ref wd, .int start] ∧ H wd = some (.lst (ws.map fun x => .str (S x))) ∧ ws.length ≤ 200 ∧ (∀ x ∈ ws, x.length ≤ 9000) ∧ start ≤ ws.length + 1 ∧
  (readExpr ws start = none → ∀ H', Ex H H' → Q .non H') ∧
  ∀ ns, readExpr ws start = some ns → ∀ (rs : List Rec) (nl : Addr) (H' : Hp), Ex H H' → Nds C nm rs ns H' → H nl = none → H' nl = some (.lst (refs rs (List.range ns.length))) → (∀ i, i < ns.length → H (R rs i).w = none) → ns.length ≤ 300 → Q (.ref nl) H'
abbrev nE : List Str := ["name", "words", "start", "nodes", "waiting", "at", "outer", "node"]
theorem scE : FnScope nE ["name", "words", "start"] (C8.fnScope (top 21)) := C8.fnScope_by (by decide +kernel)
theorem ok_expr {C : Addr} (F : C8.Def K mg "read_expression" (top 21) f fd) (b : Binds K fd ["name", "words", "start"] []) (T : Txt2 K w mg) (N : NodeC K mg C) (cR : C8.Cal P w K mg base 3 "read_node" (spRead C) []) (cH : C8.Cal P w K mg base 1 "hang" (spHang C) [])
    (cB : C8.Cal P w K mg base 1 "bind" (spBind C) []) : C8.Cal P w K mg base 4 "read_expression" (spExpr C) [] := by
  refine C8.cal0 F b .nil scE (fun vs H Q E h => by obtain ⟨wd, nm, ws, start, rfl, _⟩ := h; rfl) (fun cdv A outer s H vs Q E hr h => ?_)
  obtain ⟨wd, nm, ws, start, rfl, hwd, hlen, hxs, hst, k0, k1⟩ := h
  refine ⟨_, pss_cons (ps_set (i := 3) scE.nd rfl (Or.inl rfl) (pe_lst pa_nil)) (pss_cons (ps_set (i := 4) scE.nd rfl (Or.inl rfl) (pe_lst pa_nil)) (pss_cons (ps_set (i := 5) scE.nd rfl (Or.inl rfl) (pv 2))
    (pss_cons (ps_while PassesOwn.never (pt_cmpR op_lt (pv 5) (pe_callB call_len_seq (by rfl) T.len_ boot_len (pa_cons (pv 1) pa_nil)) (nomark _))
      (pss_cons (ps_set (i := 6) scE.nd rfl (Or.inl rfl) (pe_ifExp (pt_truth (pv 4) (by intro _; rfl)) (pe_ix ix_list (pv 4) (pe_un un_neg pe_int) (fun _ _ => rfl)) pe_non))
      (pss_cons (ps_set (i := 7) scE.nd rfl (Or.inl rfl) (C8.pe_c cR hr (by decide) (by rfl) (pa_cons (pe_tup (pa_cons (pv 0) (pa_cons (pv 5) pa_nil))) (pa_cons (pv 1) (pa_cons (pv 6) pa_nil)))))
      (pss_cons (ps_if (pw_or (pt_cmp (pc_isN (pv 7))) (pw_or1 (pw_and (pt_truth (pv 3) (by intro _; rfl)) (pw_and1 (pt_cmp (pc_isN (pv 6))))).pt)).pt (pss_one (ps_ret pe_non)) pss_nil)
      (pss_cons (ps_expr (pe_bm PySem.F.plainAttrs_list PySem.F.slot_list_append PySem.F.type_list_append mt_append (pv 3) (pa_cons (pv 7) pa_nil)))
      (pss_cons (ps_expr (C8.pe_c cH hr (by decide) (by rfl) (pa_cons (pv 7) (pa_cons (pv 4) pa_nil))))
      (pss_one (ps_set (i := 5) scE.nd rfl (Or.inl rfl) (pe_ifExp (pt_truth (pe_fld (pv 7) rfl) (by intro _; rfl)) (pe_op op_add (pv 5) pe_int) (pe_op op_add (pv 5) pe_int))))))))))
    (pss_cons (ps_if (pw_or (pt_truth (pv 4) (by intro _; rfl)) (pw_or1 (pt_not (pt_truth (pv 3) (by intro _; rfl))))).pt (pss_one (ps_ret pe_non)) pss_nil)
    (pss_cons (ps_for PassesOwn.never rfl (pi_list (pv 3)) (pg_name (i := 7) scE.nd rfl (Or.inl rfl)) (pss_one (ps_if (pt_cmpR op_eq (pe_fld (pv 7) rfl) pe_str (nomark _)) (pss_one (ps_expr (C8.pe_c cB hr (by decide) (by rfl) (pa_cons (pv 7) pa_nil)))) pss_nil)))
    (pss_one (ps_ret (pv 3))))))))
    , ?_⟩
  refine ⟨(by show 0 ≤ sizeLine; decide), fun nl hnl => ?_⟩
  refine ⟨(by show 0 ≤ sizeLine; decide), fun wl hwl0 => ?_⟩
  have nwl : nl ≠ wl := fun z => by rw [← z, upd_same] at hwl0; cases hwl0
  have hwl : H wl = none := (upd_ne nwl.symm).symm.trans hwl0
  have ex0 : Ex H (upd (upd H nl (.lst [])) wl (.lst [])) := ex_put hwl (ex_put hnl (Ex.refl H))
  refine q_asg (v := .int start) (ev_var rfl) fun H1 e1 => ?_
  generalize hres : loopM ws (ws.length + 1) [] [] start = res
  have hres0 : res = none → readExpr ws start = none := fun z => by
    unfold readExpr
    rw [hres, z]
  have hres1 : ∀ ns wt, res = some (ns, wt) → readExpr ws start = if wt ≠ [] ∨ ns = [] then none else some (bindTo ns.length ns) := fun ns wt z => by
    unfold readExpr
    rw [hres, z]
  refine q_while (fun m σ G => ∃ (rs : List Rec) (ns : List Nd) (wt : List Nat) (at_ : Nat) (x y : Option V), m = ws.length + 1 - at_ ∧ σ = [some nm, some (.ref wd), some (.int start), some (.ref nl), some (.ref wl), some (.int at_), x, y] ∧ LI C nm ws res H G nl wl rs ns wt at_) (ws.length + 1 - start) ?_ ?_
  · refine ⟨[], [], [], start, none, none, rfl, rfl, ?_⟩
    exact { fu := ⟨ws.length + 1, by omega, hres⟩
            nds := ⟨rfl, fun i hi => by simp at hi, fun i j hi => by simp at hi, fun i j hi => by simp at hi⟩
            wf := ⟨fun i hi => by simp at hi, fun i hi => by simp at hi⟩
            bn := fun i hi => by simp at hi
            wti := fun j hj => by cases hj
            wtl := Nat.le_refl _
            wil := fun i hi => by simp at hi
            nle := Nat.zero_le _
            atl := hst
            gn := e1 _ _ ((upd_ne nwl).trans upd_same)
            gw := e1 _ _ upd_same
            ne := nwl
            nw := fun i hi => by simp at hi
            ex := ex0.trans e1
            f1 := hnl
            f2 := hwl
            f3 := fun i hi => by simp at hi }
  · rintro m σ' G ⟨rs, ns, wt, at_, x, y, rfl, rfl, h⟩
    have hl := h.nds.len
    have gwd := h.ex _ _ hwd
    refine ⟨decide (at_ < ws.length), et_is (et_test (ev_op (ev_var rfl) (ev_len (ev_var rfl) (sq_of gwd)) rv_I0)) (by simp), fun hb H2 e2 => ?_, fun hb H2 e2 => ?_⟩
    · have hat : at_ < ws.length := of_decide_eq_true hb
      obtain ⟨fu, hf, hlm⟩ := h.fu
      obtain ⟨g, rfl⟩ : ∃ g, fu = g + 1 := ⟨fu - 1, by omega⟩
      unfold loopM at hlm
      rw [if_pos hat] at hlm
      refine ⟨_, fun _ _ z => z, ?_⟩
      refine q_asg (v := oref rs wt.getLast?) ?_ fun H3 e3 => ?_
      · cases z : wt.getLast? with
        | none =>
          have hz : wt = [] := by rwa [List.getLast?_eq_none_iff] at z
          exact ev_if (b := false) (et_is (et_truL (ev_var rfl) (sq_of (e2 _ _ h.gw))) (by rw [hz]; rfl)) (fun z => by cases z) fun _ => ev_c
        | some o =>
          have he : (!(refs rs wt).isEmpty) = true := by
            cases wt with
            | nil => cases z
            | cons a b => rfl
          exact ev_if (b := true) (et_is (et_truL (ev_var rfl) (sq_of (e2 _ _ h.gw))) he) (fun _ => ev_op (ev_var rfl) (ev_un ev_c ru_neg) (rv_ixL (sq_of (e2 _ _ h.gw)) (atI_last (by rw [getLast_refs, z]; rfl)))) fun z => by cases z
      · have e23 := e2.trans e3
        refine q_read (o := wt.getLast?) (lv := lvlOf ns wt.getLast?) (ov := oref rs wt.getLast?) (at_ := at_) (nm := nm) (wd := wd) (t0 := 0) (ws := ws) (ev_var rfl) (ev_var rfl) (ev_var rfl) (ev_var rfl) (e23 _ _ gwd) (outV_up h.outV e23) hat hlen hxs (fun hrd H4 e4 => ?_) (fun nd hrd p dx t wi H4 e4 hp0 hw0 hp4 ht4 hw4 => ?_)
        · rw [hrd] at hlm
          refine q_when (b := true) (et_is (et_or (a := true) (b := true) (et_in (ev_var rfl)) fun z => (by cases z)) rfl) (fun _ H5 e5 => ?_) (fun z => (by cases z))
          exact s_ret ev_c fun H6 e6 => k0 (hres0 hlm.symm) H6 ((((h.ex.trans e23).trans e4).trans e5).trans e6)
        · rw [hrd] at hlm
          dsimp only at hlm
          obtain ⟨fnm, fou, fwi, fbi, fat, flv⟩ := readNd_facts hrd
          have hp := fresh_back e23 hp0
          have hw := fresh_back e23 hw0
          have e24 := e23.trans e4
          have pne : p ≠ wi := fun z => by rw [z, hw4] at hp4; cases hp4
          have fa : ∀ i, i < ns.length → (R rs i).a ≠ p := fun i hi z => by have := (h.nds.at_ i hi).ins; rw [z, hp] at this; cases this
          have fw : ∀ i, i < ns.length → (R rs i).w ≠ wi := fun i hi z => by have := (h.nds.at_ i hi).win; rw [z, hw] at this; cases this
          have wiwl : wi ≠ wl := fun z => by have := h.gw; rw [← z, hw] at this; cases this
          have winl : wi ≠ nl := fun z => by have := h.gn; rw [← z, hw] at this; cases this
          have hpr : Option.map (fun _ => ()) (some p) = some () := rfl
          have v7 : ∀ {a0 a1 a2 a3 a4 a5 a6 : Option V} {J : Hp}, Ev (tVar 7) ([a0, a1, a2, a3, a4, a5, a6, some (.ref p)] : L2.St) J (.ref p) := ev_var rfl
          have v6 : Ev (tVar 6) ([some nm, some (.ref wd), some (.int start), some (.ref nl), some (.ref wl), some (.int at_), some (oref rs wt.getLast?), some (.ref p)] : L2.St) H4 (oref rs wt.getLast?) := ev_var rfl
          have c6 : EvT (tB (tIsN (tVar 6))) ([some nm, some (.ref wd), some (.int start), some (.ref nl), some (.ref wl), some (.int at_), some (oref rs wt.getLast?), some (.ref p)] : L2.St) H4 (decide (wt.getLast? = none)) := by
            cases z : wt.getLast? with
            | none => rw [z] at v6; exact et_in v6
            | some o => rw [z] at v6; exact et_ir v6
          have c3 : (!(refs rs (List.range ns.length)).isEmpty) = decide (ns ≠ []) := by
            cases ns with
            | nil => rfl
            | cons a b => simp [refs]
          refine q_when (b := decide (ns ≠ [] ∧ wt.getLast? = none)) (et_is (et_or (a := false) (b := decide (ns ≠ []) && decide (wt.getLast? = none)) (et_ir v7) fun _ => et_and (et_is (et_truL (ev_var rfl) (sq_of (e24 _ _ h.gn))) c3) fun _ => c6) (by simp)) (fun hbb H5 e5 => ?_) (fun hbb H5 e5 => ?_)
          · rw [if_pos (of_decide_eq_true hbb)] at hlm
            exact s_ret ev_c fun H6 e6 => k0 (hres0 hlm.symm) H6 (((h.ex.trans e24).trans e5).trans e6)
          · rw [if_neg (of_decide_eq_false hbb)] at hlm
            have e25 := e24.trans e5
            have hn : ns.length ≤ 201 := by have := h.nle; have := h.atl; omega
            refine q_app (e25 _ _ h.gn) (ev_var rfl) v7 (by unfold refs; rw [List.length_map, List.length_range]; omega) fun H6 e6 => ?_
            refine q_callD (ea_cons v7 (ea_cons (ev_var rfl) ea_nil)) fun H7 e7 => ?_
            have e26 := e25.trans e6
            have rec_ : NodeAt C nm rs H4 ⟨p, dx, t, wi⟩ nd := ⟨by rw [fou, fbi, flv]; rw [flv] at hp4; exact hp4, by rw [fat]; exact ht4, by rw [fwi]; exact hw4⟩
            have N4 : Nds C nm (rs ++ [⟨p, dx, t, wi⟩]) (ns ++ [nd]) H4 := (h.nds.ex e24).add h.wf h.bn nd _ rec_ (fun j e => h.wti j (List.mem_of_getLast? (fou ▸ e))) fbi fwi fa fw
            have rn : R (rs ++ [⟨p, dx, t, wi⟩]) ns.length = ⟨p, dx, t, wi⟩ := by rw [← hl]; exact R_new
            have ro : ∀ i, i < ns.length → R (rs ++ [⟨p, dx, t, wi⟩]) i = R rs i := fun i hi => R_app (hl ▸ hi)
            have nw' : ∀ i, i < ns.length + 1 → (R (rs ++ [⟨p, dx, t, wi⟩]) i).w ≠ wl ∧ (R (rs ++ [⟨p, dx, t, wi⟩]) i).w ≠ nl := fun i hi => by
              by_cases z : i < ns.length
              · rw [ro i z]; exact h.nw i z
              · have : i = ns.length := by omega
                rw [this, rn]
                exact ⟨wiwl, winl⟩
            have ll : (ns ++ [nd]).length = ns.length + 1 := by simp
            have N6 := ((N4.ex (e5.trans e6)).other (ys := refs rs (List.range ns.length) ++ [.ref p]) (e26 _ _ h.gn) fun i hi => (nw' i (ll ▸ hi)).2).ex e7
            have gw6 : (upd H6 nl (.lst (refs rs (List.range ns.length) ++ [.ref p]))) wl = some (.lst (refs rs wt)) := (upd_ne h.ne.symm).trans (e26 _ _ h.gw)
            have gn6 : (upd H6 nl (.lst (refs rs (List.range ns.length) ++ [.ref p]))) nl = some (.lst (refs rs (List.range ns.length) ++ [.ref p])) := upd_same
            refine ⟨nm, rs ++ [⟨p, dx, t, wi⟩], ns ++ [nd], wt, ns.length, wl, by rw [rn]; rfl, N6, by rw [ll]; omega, fun j hj => by have := h.wti j hj; omega, ?_, fun j hj => (nw' j (ll ▸ hj)).1, by have := h.wtl; omega, fun j hj => ?_, fun H8 N8 w8 K8 => ?_⟩
            · rw [refs_app fun j hj => by have := h.wti j hj; omega]
              exact e7 _ _ gw6
            · by_cases z : j < ns.length
              · rw [nth_app z]; have := h.wil j z; omega
              · have : j = ns.length := by omega
                rw [this, nth_new, fwi]
                simp
            · have l8 : (hangM (ns ++ [nd]) wt ns.length).1.length = ns.length + 1 := by
                show (addIn _ _ _).length = _
                rw [addIn_len, ll]
              have n8 : ∀ j, j < ns.length + 1 → nth (hangM (ns ++ [nd]) wt ns.length).1 j = if wt.getLast? = some j then { nth (ns ++ [nd]) j with within := (nth (ns ++ [nd]) j).within ++ [ns.length] } else nth (ns ++ [nd]) j := fun j hj => addIn_nth (by rw [ll]; exact hj)
              have nn8 : nth (hangM (ns ++ [nd]) wt ns.length).1 ns.length = nd := by
                rw [n8 _ (by omega), nth_new, if_neg]
                intro z
                have := h.wti _ (List.mem_of_getLast? z)
                omega
              have i8 := (N8.at_ ns.length (by rw [l8]; omega)).ins
              rw [nn8, rn] at i8
              have at8 : ∀ {z : Bool}, z = decide (nd.named ≠ []) → V.int (if z = true then ((at_ + 2 : Nat) : Int) else ((at_ + 1 : Nat) : Int)) = V.int ((if nd.named ≠ [] then at_ + 2 else at_ + 1 : Nat) : Int) := fun e => by
                subst e
                by_cases q : nd.named = []
                · simp [q]
                · simp [q]
              have atE : Ev (tIf (fun σ H Q => (tFld K (tVar 7) "named") σ H fun x H' => ∃ k, TruV K x H' k ∧ Q k H') (tOp (rI0 fun i j => V.int (i + j)) (tVar 5) (tC (V.int 2))) (tOp (rI0 fun i j => V.int (i + j)) (tVar 5) (tC (V.int 1)))) ([some nm, some (.ref wd), some (.int start), some (.ref nl), some (.ref wl), some (.int at_), some (oref rs wt.getLast?), some (.ref p)] : L2.St) H8 (.int ((if nd.named ≠ [] then at_ + 2 else at_ + 1 : Nat) : Int)) := by
                refine ev_if (b := decide (nd.named ≠ [])) (et_truS (ev_fld v7 i8 N.cl N.n4 rfl) (by omega)) (fun q => ?_) (fun q => ?_)
                · rw [if_pos (of_decide_eq_true q)]
                  exact ev_is (ev_op (ev_var rfl) ev_c rv_I0) (by push_cast; rfl)
                · rw [if_neg (of_decide_eq_false q)]
                  exact ev_is (ev_op (ev_var rfl) ev_c rv_I0) (by push_cast; rfl)
              refine s_asg atE fun H9 e9 => ?_
              generalize hat' : (if nd.named ≠ [] then at_ + 2 else at_ + 1) = at' at hlm
              have hat1 : at_ + 1 ≤ at' ∧ at' ≤ at_ + 2 := by rw [← hat']; split <;> omega
              refine ⟨ws.length + 1 - at', by omega, rs ++ [⟨p, dx, t, wi⟩], (hangM (ns ++ [nd]) wt ns.length).1, (hangM (ns ++ [nd]) wt ns.length).2, at', _, _, rfl, rfl, ?_⟩
              have x7 : Ex H H7 := by
                intro c o hc
                have c1 : c ≠ nl := fun z => by rw [z, h.f1] at hc; cases hc
                exact e7 _ _ ((upd_ne c1).trans (e26 _ _ (h.ex _ _ hc)))
              have hp00 : H p = none := fresh_back h.ex hp
              have hw00 : H wi = none := fresh_back h.ex hw
              exact { fu := ⟨g, by omega, hlm⟩
                      nds := N8.ex e9
                      wf := wf_hang h.wf h.wti fou fwi
                      bn := fun i hi => by
                        rw [l8] at hi
                        have b0 : (nth (ns ++ [nd]) i).binder = none := by
                          by_cases z : i < ns.length
                          · rw [nth_app z]; exact h.bn i z
                          · have : i = ns.length := by omega
                            rw [this, nth_new]; exact fbi
                        rw [n8 i hi]
                        split <;> exact b0
                      wti := fun j hj => by
                        rw [l8]
                        have := popM_sub j hj
                        rw [List.mem_append] at this
                        rcases this with q | q
                        · have := h.wti j q; omega
                        · simp at q; omega
                      wtl := by
                        rw [l8]
                        refine Nat.le_trans popM_le ?_
                        simp
                        exact h.wtl
                      wil := fun i hi => by
                        rw [l8] at hi ⊢
                        have b0 : (nth (ns ++ [nd]) i).within.length ≤ ns.length := by
                          by_cases z : i < ns.length
                          · rw [nth_app z]; exact h.wil i z
                          · have : i = ns.length := by omega
                            rw [this, nth_new, fwi]; simp
                        rw [n8 i hi]
                        split
                        · rw [List.length_append]; simp; exact b0
                        · omega
                      nle := by rw [l8]; have := h.nle; omega
                      atl := by omega
                      gn := by
                        rw [l8]
                        refine e9 _ _ (K8 _ _ ?_ ?_)
                        · rintro (z | ⟨j, hj, z⟩)
                          · exact h.ne z
                          · exact (nw' j (ll ▸ hj)).2 z.symm
                        · refine (e7 _ _ gn6).trans ?_
                          rw [List.range_succ]
                          have r1 : refs (rs ++ [⟨p, dx, t, wi⟩]) (List.range ns.length) = refs rs (List.range ns.length) := refs_app fun j hj => by rw [List.mem_range] at hj; omega
                          unfold refs at r1 ⊢
                          rw [List.map_append, r1]
                          show _ = some (HO.lst (_ ++ [V.ref (R (rs ++ [⟨p, dx, t, wi⟩]) ns.length).a]))
                          rw [rn]
                      gw := e9 _ _ w8
                      ne := h.ne
                      nw := fun i hi => nw' i (l8 ▸ hi)
                      ex := fun c o hc => e9 _ _ (K8 c o (by
                        rintro (z | ⟨j, hj, z⟩)
                        · rw [z, h.f2] at hc; cases hc
                        · rw [ll] at hj
                          by_cases q : j < ns.length
                          · rw [ro j q] at z
                            rw [z, (h.f3 j q).2] at hc; cases hc
                          · have : j = ns.length := by omega
                            rw [this, rn] at z
                            rw [z, hw00] at hc; cases hc) (x7 c o hc))
                      f1 := h.f1
                      f2 := h.f2
                      f3 := fun i hi => by
                        rw [l8] at hi
                        by_cases q : i < ns.length
                        · rw [ro i q]; exact h.f3 i q
                        · have : i = ns.length := by omega
                          rw [this, rn]; exact ⟨hp00, hw00⟩ }
    · have hat : ¬ at_ < ws.length := of_decide_eq_false hb
      obtain ⟨fu, hf, hlm⟩ := h.fu
      obtain ⟨g, rfl⟩ : ∃ g, fu = g + 1 := ⟨fu - 1, by omega⟩
      unfold loopM at hlm
      rw [if_neg hat] at hlm
      have hrx := hres1 ns wt hlm.symm
      have hn : ns.length ≤ 201 := by have := h.nle; have := h.atl; omega
      have c4 : (!(refs rs wt).isEmpty) = decide (wt ≠ []) := by
        cases wt with
        | nil => rfl
        | cons a b => simp [refs]
      have c3 : (!(refs rs (List.range ns.length)).isEmpty) = decide (ns ≠ []) := by
        cases ns with
        | nil => rfl
        | cons a b => simp [refs]
      refine q_when (b := decide (wt ≠ [] ∨ ns = [])) (et_is (et_or (a := decide (wt ≠ [])) (b := !decide (ns ≠ [])) (et_is (et_truL (ev_var rfl) (sq_of (e2 _ _ h.gw))) c4) fun _ => et_not (et_is (et_truL (ev_var rfl) (sq_of (e2 _ _ h.gn))) c3)) (by simp)) (fun hbb H3 e3 => ?_) (fun hbb H3 e3 => ?_)
      · rw [if_pos (of_decide_eq_true hbb)] at hrx
        exact s_ret ev_c fun H4 e4 => k0 hrx H4 (((h.ex.trans e2).trans e3).trans e4)
      · rw [if_neg (of_decide_eq_false hbb)] at hrx
        have e23 := e2.trans e3
        have gn3 := e23 _ _ h.gn
        refine q_forL (K := K) (a := nl) (xs := refs rs (List.range ns.length)) (ev_var rfl) (sq_of gn3) (fun i σ G' => (∃ z, σ = [some nm, some (.ref wd), some (.int start), some (.ref nl), some (.ref wl), some (.int at_), x, z]) ∧ Nds C nm rs (bindTo i ns) G' ∧ G' nl = some (.lst (refs rs (List.range ns.length))) ∧ Keep (fun c => ∃ j, j < ns.length ∧ c = (R rs j).a) H G') (fun H4 e4 => ?_) (fun i σ G' _ hp => sq_of hp.2.2.1) (fun i v σ G' hv hp => ?_) (fun σ G' hp => ?_)
        · exact ⟨⟨_, rfl⟩, h.nds.ex (e23.trans e4), e4 _ _ gn3, Keep.of ((h.ex.trans e23).trans e4)⟩
        · obtain ⟨⟨z, rfl⟩, hN, hG, hK⟩ := hp
          have hi : i < ns.length := by
            have := (List.getElem?_eq_some_iff.mp hv).1
            unfold refs at this
            rw [List.length_map, List.length_range] at this
            exact this
          have hv2 : v = .ref (R rs i).a := by
            unfold refs at hv
            rw [List.getElem?_map, List.getElem?_range hi] at hv
            exact (Option.some.inj hv).symm
          subst hv2
          have hib : i < (bindTo i ns).length := by rw [bindTo_len]; exact hi
          have n := (hN.at_ i hib).ins
          have v7 : ∀ {a0 a1 a2 a3 a4 a5 a6 : Option V} {J : Hp}, Ev (tVar 7) ([a0, a1, a2, a3, a4, a5, a6, some (.ref (R rs i).a)] : L2.St) J (.ref (R rs i).a) := ev_var rfl
          have bs : bindTo (i + 1) ns = if (nth (bindTo i ns) i).kind = [110, 97, 109, 101] then (bindTo i ns).set i (Mi.bindM (bindTo i ns) i) else bindTo i ns := rfl
          have ln : (Str.ofString "name" : Str) = S [110, 97, 109, 101] := by decide
          refine s_when (b := decide ((nth (bindTo i ns) i).kind = [110, 97, 109, 101])) (et_is (et_test (ev_op (ev_fld v7 n N.cl N.n3 rfl) ev_c (rv_eq rfl))) (by rw [ln]; exact S_eqc)) (fun hbk H4 e4 => ?_) (fun hbk H4 e4 => ?_)
          · rw [if_pos (of_decide_eq_true hbk)] at bs
            refine s_callD (ea_cons v7 ea_nil) fun H5 e5 => ?_
            refine ⟨nm, rs, bindTo i ns, i, rfl, hN.ex (e4.trans e5), wf_bindTo h.wf, hib, ?_, fun H6 N6 K6 => ⟨⟨_, rfl⟩, by rw [bs]; exact N6, ?_, ?_⟩⟩
            · rw [bindTo_over (Nat.le_refl _) hi]
              exact h.bn i hi
            · refine K6 _ _ (fun z => ?_) (e5 _ _ (e4 _ _ hG))
              rw [z, n] at hG
              cases hG
            · refine fun c o nc hc => K6 _ _ (fun z => nc ⟨i, hi, z⟩) (e5 _ _ (e4 _ _ (hK c o nc hc)))
          · rw [if_neg (of_decide_eq_false hbk)] at bs
            exact ⟨⟨_, rfl⟩, by rw [bs]; exact hN.ex e4, e4 _ _ hG, hK.ex e4⟩
        · obtain ⟨⟨z, rfl⟩, hN, hG, hK⟩ := hp
          have lx : (refs rs (List.range ns.length)).length = ns.length := by unfold refs; rw [List.length_map, List.length_range]
          rw [lx] at hN
          have bl : (bindTo ns.length ns).length = ns.length := bindTo_len
          refine s_ret (ev_var rfl) fun H4 e4 => k1 _ hrx rs nl H4 (fun c o hc => e4 _ _ (hK c o ?_ hc)) (hN.ex e4) hnl (by rw [bl]; exact e4 _ _ hG) (fun i hi => (h.f3 i (bl ▸ hi)).2) (by rw [bl]; omega)
          rintro ⟨j, hj, rfl⟩
          rw [(h.f3 j hj).1] at hc
          cases hc
end
end K5
set_option Elab.async false
set_option linter.all false
set_option maxRecDepth 100000
set_option maxHeartbeats 4000000
namespace K5
open PySem PySem.Spec PyProof.Rows L2 Evl Xl SX Mi
/-! ### pure facts of the words of a text -/
theorem spl_ne : ∀ {s : Wd} {t : List Nat} {k : Nat} {x : Wd}, TL.spl s k x t ≠ [] := by
  intro s t
  induction t with
  | nil => intro k x; rw [TL.spl.eq_1]; simp
  | cons c r ih =>
    intro k x
    cases k with
    | zero =>
      rw [TL.spl.eq_2]
      split
      · simp
      · exact ih
    | succ k => rw [TL.spl.eq_3]; exact ih
theorem spl_len : ∀ {s : Wd} {t : List Nat} {k : Nat} {x : Wd}, (TL.spl s k x t).length ≤ t.length + 1 ∧ ∀ y ∈ TL.spl s k x t, y.length ≤ x.length + t.length := by
  intro s t
  induction t with
  | nil => intro k x; rw [TL.spl.eq_1]; simp
  | cons c r ih =>
    intro k x
    cases k with
    | zero =>
      rw [TL.spl.eq_2]
      split
      · have h := @ih (s.length - 1) []
        refine ⟨by simp only [List.length_cons]; omega, fun y hy => ?_⟩
        rcases List.mem_cons.mp hy with z | z
        · rw [z]; omega
        · have := h.2 y z
          simp only [List.length_cons, List.length_nil] at this ⊢
          omega
      · have h := @ih 0 (x ++ [c])
        refine ⟨by simp only [List.length_cons]; omega, fun y hy => ?_⟩
        have := h.2 y hy
        simp only [List.length_append, List.length_cons, List.length_nil] at this ⊢
        omega
    | succ k =>
      rw [TL.spl.eq_3]
      have h := @ih k x
      refine ⟨by simp only [List.length_cons]; omega, fun y hy => ?_⟩
      have := h.2 y hy
      simp only [List.length_cons]
      omega
theorem addIn_named {ns : List Nd} {wt : List Nat} {i : Nat} (h : ∀ j, j < ns.length → (nth ns j).named.length ≤ 8) : ∀ j, j < (addIn ns wt i).length → (nth (addIn ns wt i) j).named.length ≤ 8 := by
  intro j hj
  rw [addIn_len] at hj
  rw [addIn_nth hj]
  split <;> exact h j hj
theorem loopM_named {ws : List Wd} : ∀ {f : Nat} {ns : List Nd} {wt : List Nat} {at_ : Nat} {ns' : List Nd} {wt' : List Nat}, loopM ws f ns wt at_ = some (ns', wt') → (∀ j, j < ns.length → (nth ns j).named.length ≤ 8) → ∀ j, j < ns'.length → (nth ns' j).named.length ≤ 8 := by
  intro f
  induction f with
  | zero => intro ns wt at_ ns' wt' e h; cases e; exact h
  | succ f ih =>
    intro ns wt at_ ns' wt' e h
    unfold loopM at e
    by_cases hat : at_ < ws.length
    · rw [if_pos hat] at e
      cases hr : readNd ws at_ wt.getLast? (lvlOf ns wt.getLast?) with
      | none => rw [hr] at e; cases e
      | some nd =>
        rw [hr] at e
        dsimp only at e
        by_cases hb : ns ≠ [] ∧ wt.getLast? = none
        · rw [if_pos hb] at e; cases e
        · rw [if_neg hb] at e
          refine ih e (addIn_named fun j hj => ?_)
          by_cases z : j < ns.length
          · rw [nth_app z]; exact h j z
          · have : j = ns.length := by simp at hj; omega
            rw [this, nth_new]
            exact (readNd_facts hr).1
    · rw [if_neg hat] at e
      cases e
      exact h
theorem readExpr_named {ws : List Wd} {st : Nat} {ns : List Nd} (h : readExpr ws st = some ns) : ∀ j, j < ns.length → (nth ns j).named.length ≤ 8 := by
  unfold readExpr at h
  cases hl : loopM ws (ws.length + 1) [] [] st with
  | none => rw [hl] at h; cases h
  | some q =>
    obtain ⟨ns', wt⟩ := q
    rw [hl] at h
    dsimp only at h
    by_cases z : wt ≠ [] ∨ ns' = []
    · rw [if_pos z] at h; cases h
    · rw [if_neg z] at h
      cases h
      intro j hj
      rw [bindTo_len] at hj
      rw [(bindTo_same hj).2.2.2.1]
      exact loopM_named hl (fun j hj => by simp at hj) j hj
theorem nds_range {ns : List Nd} : ns = (List.range ns.length).map (nth ns) := by
  refine List.ext_getElem (by simp) fun i h1 h2 => ?_
  unfold nth
  simp [List.getD_eq_getElem?_getD, h1]
theorem names_given {l : Ln} : l.names.map (fun x => V.str (S x)) = given l.nodes.length (fun i => decide ((nth l.nodes i).named ≠ [])) (fun i => .str (S (nth l.nodes i).named)) := by
  unfold Ln.names given
  conv => lhs; rw [nds_range (ns := l.nodes)]
  rw [List.filter_map, List.map_map, List.map_map]
  rfl
theorem s_fldL {K : PySem.W.Frag} {ta te : TE} {σ : L2.St} {H : Hp} {f : Str} {a C dx : Addr} {fs : List (Str × V)} {xs : List V} {D : Ends} (ha : H a = some (.ins C dx fs)) (h0 : Ev ta σ H (.ref a)) (h : EvL te σ H xs) (hc : Cls K C) (hn : NoAttr K C f) (hl : fs.length < 1000)
    (k : ∀ q H1, H q = none → Ex H H1 → H1 q = some (.lst xs) → D.nx σ (upd H1 a (.ins C dx (putF f (.ref q) fs)))) : sFld K ta te f D σ H :=
  h H (Ex.refl H) _ fun q H1 hq e1 hq1 => h0 H1 e1 _ fun H2 e2 => ⟨a, C, dx, fs, rfl, e2 _ _ (e1 _ _ ha), hc, hn, hl, k q H2 hq (e1.trans e2) (e2 _ _ hq1)⟩
/-! ### lines in the heap -/
structure LRec where
  a : Addr
  dx : Addr
  nl : Addr
  nm : Addr
  rs : List Rec
  deriving Inhabited
def lnF (name told : Str) (nl nm : Addr) : List (Str × V) := [("name", .str name), ("told", .str told), ("nodes", .ref nl), ("names", .ref nm)]
structure LineAt (CL C : Addr) (H : Hp) (r : LRec) (l : Ln) : Prop where
  ins : H r.a = some (.ins CL r.dx (lnF (S l.name) (S l.told) r.nl r.nm))
  nds : Nds C (.str (S l.name)) r.rs l.nodes H
  nl : H r.nl = some (.lst (refs r.rs (List.range l.nodes.length)))
  nm : H r.nm = some (.lst (l.names.map fun x => .str (S x)))
  bd : l.nodes.length ≤ 300
theorem LineAt.ex {CL C : Addr} {H H' : Hp} {r : LRec} {l : Ln} (h : LineAt CL C H r l) (e : Ex H H') : LineAt CL C H' r l := ⟨e _ _ h.ins, h.nds.ex e, e _ _ h.nl, e _ _ h.nm, h.bd⟩
structure LineC (K : PySem.W.Frag) (mg : Str → Option Value) (C : Addr) : Prop where
  cl : Cls K C
  mgC : mg "Line" = some (.ref C)
  n1 : NoAttr K C "name"
  n2 : NoAttr K C "told"
  n3 : NoAttr K C "nodes"
  n4 : NoAttr K C "names"
section
variable {P : Program} {w : World} {K : PySem.W.Frag} {mg : Str → Option Value} {base : Heap} {f : Addr} {fd : FuncData}
def spLine (CL C : Addr) : Sp := fun vs H Q _ => ∃ (p dx nl : Addr) (rs : List Rec) (l : Ln), vs = [.ref p, .str (S l.name), .str (S l.told), .ref nl] ∧ H p = some (.ins CL dx []) ∧ Nds C (.str (S l.name)) rs l.nodes H ∧ H nl = some (.lst (refs rs (List.range l.nodes.length))) ∧ l.nodes.length ≤ 300 ∧
  (∀ j, j < l.nodes.length → (nth l.nodes j).named.length ≤ 8) ∧ ∀ (nm : Addr) (H' : Hp), Keep (fun c => c = p) H H' → H nm = none → LineAt CL C H' ⟨p, dx, nl, nm, rs⟩ l → Q .non H'
abbrev sLine : Stmt := inClass (top 29) 0
theorem scL : FnScope ["self", "name", "told", "nodes", "node"] ["self", "name", "told", "nodes"] (C8.fnScope sLine) := C8.fnScope_by (by decide +kernel)
theorem ok_line {CL C : Addr} (F : C8.Fun K "__init__" "Line.__init__" sLine f fd) (T : LineC K mg CL) (N : NodeC K mg C) (M : Mk K CL f) (b : Binds K fd ["self", "name", "told", "nodes"] []) : C8.Mak P w K mg base 1 "Line" CL (spLine CL C) [] := by
  refine C8.mak0 M T.mgC F b .nil scL (fun vs H Q E h => by obtain ⟨p, dx, nl, rs, l, rfl, _⟩ := h; rfl) (fun cdv A outer s H vs Q E hr h => ?_)
  obtain ⟨p, dx, nl, rs, l, rfl, hp, hN, hnl, hbd, hnm, k⟩ := h
  refine ⟨_, pss_cons (ps_fld (pv 0) (pv 1) rfl) (pss_cons (ps_fld (pv 0) (pv 2) rfl) (pss_cons (ps_fld (pv 0) (pv 3) rfl)
    (pss_one (ps_fld (pv 0) (pe_lc (own := [("node", 4)]) (g := gName 4) (tt := fun σ H Q => tFld K (tVar 4) "named" σ H fun x H' => ∃ k, TruV K x H' k ∧ Q k H') (te := tFld K (tVar 4) "named") rfl scL.nd (pi_list (pv 3)) (blkOk_by (N := ["self", "name", "told", "nodes", "node"]) (sc := C8.fnScope sLine) (by decide +kernel))
          (fun _ _ _ _ _ => pg_name (i := 4) scL.nd rfl (Or.inl rfl)) (fun _ _ _ _ _ => pts_one (pt_truth (pe_fld (pv 4) (by rfl)) (by intro _; rfl))) (fun _ _ _ _ _ => pe_fld (pv 4) (by rfl))) rfl)))), ?_⟩
  refine ⟨_, rfl, _, rfl, p, CL, dx, [], rfl, hp, T.cl, T.n1, (by show 0 < 1000; decide), ?_⟩
  refine ⟨_, rfl, _, rfl, p, CL, dx, _, rfl, upd_same, T.cl, T.n2, (by show 1 < 1000; decide), ?_⟩
  refine ⟨_, rfl, _, rfl, p, CL, dx, _, rfl, upd_same, T.cl, T.n3, (by show 2 < 1000; decide), ?_⟩
  have ne : ∀ {c : Addr} {o : HO}, H c = some o → (∀ C' d, o ≠ .ins C' d []) → c ≠ p := fun hc ho z => by rw [z, hp] at hc; cases hc; exact ho _ _ rfl
  have keep : ∀ {F1 F2 F3 : List (Str × V)} {c : Addr} {o : HO}, H c = some o → c ≠ p → upd (upd (upd H p (.ins CL dx F1)) p (.ins CL dx F2)) p (.ins CL dx F3) c = some o := fun hc n => by rw [upd_ne n, upd_ne n, upd_ne n]; exact hc
  have hNs : ∀ {F1 F2 F3 : List (Str × V)}, Nds C (.str (S l.name)) rs l.nodes (upd (upd (upd H p (.ins CL dx F1)) p (.ins CL dx F2)) p (.ins CL dx F3)) := fun {F1 F2 F3} =>
    ⟨hN.len, fun i hi => ⟨keep (hN.at_ i hi).ins (ne (hN.at_ i hi).ins fun _ _ z => by cases z), keep (hN.at_ i hi).tup (ne (hN.at_ i hi).tup fun _ _ z => by cases z), keep (hN.at_ i hi).win (ne (hN.at_ i hi).win fun _ _ z => by cases z)⟩, hN.ia, hN.iw⟩
  have hnl3 : ∀ {F1 F2 F3 : List (Str × V)}, upd (upd (upd H p (.ins CL dx F1)) p (.ins CL dx F2)) p (.ins CL dx F3) nl = some (.lst (refs rs (List.range l.nodes.length))) := keep hnl (ne hnl fun _ _ z => by cases z)
  have el : EvL (tLc (iList K (tVar 3)) (gName 4) (fun σ H Q => tFld K (tVar 4) "named" σ H fun x H' => ∃ k, TruV K x H' k ∧ Q k H') (tFld K (tVar 4) "named") [4]) (start ["self", "name", "told", "nodes", "node"] [V.ref p, .str (S l.name), .str (S l.told), .ref nl])
      (upd (upd (upd H p (.ins CL dx (putF "name" (.str (S l.name)) []))) p (.ins CL dx (putF "told" (.str (S l.told)) (putF "name" (.str (S l.name)) [])))) p (.ins CL dx (putF "nodes" (.ref nl) (putF "told" (.str (S l.told)) (putF "name" (.str (S l.name)) [])))))
      (given (refs rs (List.range l.nodes.length)).length (fun i => decide ((nth l.nodes i).named ≠ [])) (fun i => .str (S (nth l.nodes i).named))) := by
    have at_i : ∀ {i : Nat} {x : V}, (refs rs (List.range l.nodes.length))[i]? = some x → i < l.nodes.length ∧ x = .ref (R rs i).a := fun {i x} hv => by
      have hi : i < l.nodes.length := by
        have := (List.getElem?_eq_some_iff.mp hv).1
        unfold refs at this
        rw [List.length_map, List.length_range] at this
        exact this
      unfold refs at hv
      rw [List.getElem?_map, List.getElem?_range hi] at hv
      exact ⟨hi, (Option.some.inj hv).symm⟩
    refine el_lcL (K := K) (j := 4) _ _ (ev_var rfl) (sq_of hnl3) (by unfold refs; rw [List.length_map, List.length_range]; omega) (fun _ => rfl) (fun i x H1 e1 hv => ?_) (fun i x H1 e1 hv _ => ?_)
    · obtain ⟨hi, rfl⟩ := at_i hv
      exact et_truS (ev_fld (ev_var rfl) (e1 _ _ (hNs.at_ i hi).ins) N.cl N.n4 rfl) (by have := hnm i hi; omega)
    · obtain ⟨hi, rfl⟩ := at_i hv
      exact ev_fld (ev_var rfl) (e1 _ _ (hNs.at_ i hi).ins) N.cl N.n4 rfl
  refine s_fldL upd_same (ev_var rfl) el T.cl T.n4 (by show 3 < 1000; decide) fun nm H4 hm0 e4 hm4 => ?_
  have lx : (refs rs (List.range l.nodes.length)).length = l.nodes.length := by unfold refs; rw [List.length_map, List.length_range]
  rw [lx, ← names_given] at hm4
  have nmp : nm ≠ p := fun z => by rw [z, upd_same] at hm0; cases hm0
  have old : ∀ {c : Addr} {o : HO}, H c = some o → c ≠ p → H4 c = some o := fun hc n => e4 _ _ (keep hc n)
  have old5 : ∀ {c : Addr} {o o' : HO}, H c = some o → c ≠ p → (upd H4 p o') c = some o := fun hc n => (upd_ne n).trans (old hc n)
  refine k nm _ (fun c o n hc => old5 hc n) ?_ ⟨upd_same, ⟨hN.len, fun i hi => ⟨old5 (hN.at_ i hi).ins (ne (hN.at_ i hi).ins fun _ _ z => by cases z), old5 (hN.at_ i hi).tup (ne (hN.at_ i hi).tup fun _ _ z => by cases z), old5 (hN.at_ i hi).win (ne (hN.at_ i hi).win fun _ _ z => by cases z)⟩, hN.ia, hN.iw⟩,
    old5 hnl (ne hnl fun _ _ z => by cases z), (upd_ne nmp).trans hm4, hbd⟩
  rw [upd_ne nmp, upd_ne nmp, upd_ne nmp] at hm0
  exact hm0
end
end K5
set_option Elab.async false
set_option linter.all false
set_option maxRecDepth 100000
set_option maxHeartbeats 4000000
namespace K5
open PySem PySem.Spec PyProof.Rows L2 Evl Xl SX Mi
def rSplit : V → List V → Hp → VK → Prop := fun x xs H Q => ∃ a b, x = V.str a ∧ xs = [V.str b] ∧ (b.length == 0) = false ∧ a.length + 2 ≤ PySem.sizeLine ∧ rNewStrs (PySem.Txt.split a b) H Q
theorem el_split {ta tb : TE} {σ : L2.St} {H : Hp} {a b : Wd} (ha : Ev ta σ H (.str (S a))) (hb : Ev tb σ H (.str (S b))) (hb1 : b ≠ []) (hb2 : (b.all fun x => decide (x < 256)) = true) (hl : a.length ≤ 9000) : EvL (tM1 rSplit ta tb) σ H ((TL.spl b 0 [] a).map fun x => .str (S x)) := by
  refine fun H1 e Q q => ha H1 e _ fun H2 e2 => ⟨⟨_, rfl⟩, hb H2 (e.trans e2) _ fun H3 e3 => ⟨S a, S b, rfl, rfl, ?_, ?_, fun p hp => ?_⟩⟩
  · cases b with
    | nil => exact absurd rfl hb1
    | cons c r => rw [S_len]; simp
  · rw [S_len, sizeLine_eq]; omega
  · have e23 := e2.trans e3
    refine q p _ (fresh_back e23 hp) (ex_put (fresh_back e23 hp) e23) ?_
    rw [upd_same, split_S hb1 hb2, List.map_map]
    rfl
theorem q_twoT {K : PySem.W.Frag} {ta tb : TE} {σ : L2.St} {H : Hp} {x y : V} {i j : Nat} {D : Ends} {tz : TS} (ha : Ev ta σ H x) (hb : Ev tb σ H y) (k : ∀ H1, Ex H H1 → tz D ((σ.set i (some x)).set j (some y)) H1) :
    tSeq (tAsg (tTup (tCons ta (tCons tb tNil))) (gTup K 2 (gCons (gName i) (gCons (gName j) gNil)))) tz D σ H :=
  ha H (Ex.refl H) _ fun H1 e1 => hb H1 e1 _ fun H2 e2 => ⟨by show 2 ≤ sizeLine; rw [sizeLine_eq]; omega, fun p hp => ⟨p, _, rfl, st_of upd_same, rfl, x, [y], rfl, y, [], rfl, rfl, k _ ((e1.trans e2).trans (ex_put hp (Ex.refl H2)))⟩⟩
theorem s_twoT {K : PySem.W.Frag} {ta tb : TE} {σ : L2.St} {H : Hp} {x y : V} {i j : Nat} {D : Ends} (ha : Ev ta σ H x) (hb : Ev tb σ H y) (k : ∀ H1, Ex H H1 → D.nx ((σ.set i (some x)).set j (some y)) H1) :
    tAsg (tTup (tCons ta (tCons tb tNil))) (gTup K 2 (gCons (gName i) (gCons (gName j) gNil))) D σ H :=
  ha H (Ex.refl H) _ fun H1 e1 => hb H1 e1 _ fun H2 e2 => ⟨by show 2 ≤ sizeLine; rw [sizeLine_eq]; omega, fun p hp => ⟨p, _, rfl, st_of upd_same, rfl, x, [y], rfl, y, [], rfl, rfl, k _ ((e1.trans e2).trans (ex_put hp (Ex.refl H2)))⟩⟩
theorem s_par {ta : TA} {σ : L2.St} {H : Hp} {x y : V} {i j : Nat} {D : Ends} (ha : EvA ta σ H [x, y]) (k : ∀ H1, Ex H H1 → D.nx ((σ.set i (some x)).set j (some y)) H1) : tPar i j ta D σ H :=
  ha H (Ex.refl H) _ fun H1 e1 => ⟨x, y, rfl, k H1 e1⟩
theorem q_callA {sp : Sp} {dvs vs : List V} {E : XK} {ta : TA} {σ : L2.St} {H : Hp} {D : Ends} {tz : TS} {i : Nat} (h : EvA ta σ H vs) (k : ∀ H1, Ex H H1 → sp (vs ++ dvs) H1 (fun v H2 => tz D (σ.set i (some v)) H2) E) : tSeq (tAsg (tCall sp dvs E ta) (gName i)) tz D σ H :=
  h H (Ex.refl H) _ fun H1 e1 => k H1 e1
theorem r_make {C : Addr} {sp : Sp} {dvs vs : List V} {E : XK} {ta : TA} {σ : L2.St} {H : Hp} {Q : VK} (h : EvA ta σ H vs) (k : ∀ H1, Ex H H1 → ∀ x dx, H1 x = none → H1 dx = none → dx ≠ x → sp (V.ref x :: (vs ++ dvs)) (upd (upd H1 dx (.own x)) x (.ins C dx [])) (fun v H2 => v = .non ∧ Q (.ref x) H2) E) : tMake C sp dvs E ta σ H Q :=
  h H (Ex.refl H) _ fun H1 e1 => k H1 e1
section
variable {P : Program} {w : World} {K : PySem.W.Frag} {mg : Str → Option Value} {base : Heap} {f : Addr} {fd : FuncData}
def spRL (CL C : Addr) : Sp := fun vs H Q _ => ∃ told : Wd, vs = [.str (S told)] ∧ told.length ≤ 9000 ∧ (readLine told = none → ∀ H', Ex H H' → Q .non H') ∧
  ∀ l, readLine told = some l → ∀ (r : LRec) (H' : Hp), Ex H H' → LineAt CL C H' r l → (∀ i, i < l.nodes.length → H (R r.rs i).w = none) → H r.a = none → H r.nl = none → H r.nm = none → Q (.ref r.a) H'
theorem scRL : FnScope ["told", "words", "name", "start", "nodes"] ["told"] (C8.fnScope (top 31)) := C8.fnScope_by (by decide +kernel)
theorem ok_read_line {CL C : Addr} (F : C8.Def K mg "read_line" (top 31) f fd) (b : Binds K fd ["told"] []) (T : Txt2 K w mg) (cF : C8.Cal P w K mg base 2 "is_free" spFree []) (cE : C8.Cal P w K mg base 4 "read_expression" (spExpr C) [])
    (cL : C8.Mak P w K mg base 1 "Line" CL (spLine CL C) []) : C8.Cal P w K mg base 5 "read_line" (spRL CL C) [] := by
  obtain ⟨tm, mm⟩ := T.mostW
  refine C8.cal0 F b .nil scRL (fun vs H Q E h => by obtain ⟨told, rfl, _⟩ := h; rfl) (fun cdv A outer s H vs Q E hr h => ?_)
  obtain ⟨told, rfl, hl, k0, k1⟩ := h
  refine ⟨_, pss_cons (ps_set (i := 1) scRL.nd rfl (Or.inl rfl) (pe_split (pv 0) pe_str))
    (pss_cons (ps_if (pt_cmpR op_gt (pe_callB call_len_seq (by rfl) T.len_ boot_len (pa_cons (pv 1) pa_nil)) (pe_glob (v := .int 120) (by rfl) mm ⟨tm, rfl⟩) (nomark _)) (pss_one (ps_ret pe_non)) pss_nil)
    (pss_cut (ps_if (pt_cmpR op_eq (pe_ix ix_list (pv 1) pe_int (fun _ _ => rfl)) pe_str (nomark _))
        (pss_one (ps_asg (pe_tup (pa_cons pe_str (pa_cons pe_int pa_nil))) (pg_tup (by rfl) (pgs_cons (pg_name (i := 2) scRL.nd rfl (.inl rfl)) (pgs_cons (pg_name (i := 3) scRL.nd rfl (.inl rfl)) pgs_nil)))))
        (pss_one (ps_if (pw_and (pt_cmpR op_eq (pe_ix ix_list (pv 1) pe_int (fun _ _ => rfl)) pe_str (nomark _))
            (pw_and (pt_cmpR op_gt (pe_callB call_len_seq (by rfl) T.len_ boot_len (pa_cons (pv 1) pa_nil)) pe_int (nomark _))
            (pw_and (pt_val (C8.pe_c cF hr (by decide) (by rfl) (pa_cons (pe_ix ix_list (pv 1) pe_int (fun _ _ => rfl)) pa_nil)))
              (pw_and1 (pt_cmpR op_eq (pe_ix ix_list (pv 1) pe_int (fun _ _ => rfl)) pe_str (nomark _)))))).pt
          (pss_one (ps_par (i := 2) (j := 3) (by rfl) scRL.nd rfl rfl (by decide) rfl rfl (pa_cons (pe_ix ix_list (pv 1) pe_int (fun _ _ => rfl)) (pa_cons pe_int pa_nil)) (by rfl)))
          (pss_one (ps_ret pe_non)))))
    (pss_cons (ps_set (i := 4) scRL.nd rfl (Or.inl rfl) (C8.pe_c cE hr (by decide) (by rfl) (pa_cons (pv 2) (pa_cons (pv 1) (pa_cons (pv 3) pa_nil)))))
    (pss_one (ps_ret (pe_ifExp (pt_cmp (pc_isN (pv 4))) pe_non (C8.pe_mk cL hr (by decide) (by rfl) (pa_cons (pv 2) (pa_cons (pv 0) (pa_cons (pv 4) pa_nil))))))))))
    , ?_⟩
  have l32 : (Str.ofString " " : Str) = S [32] := by decide
  have lrun : (Str.ofString "run" : Str) = S [114, 117, 110] := by decide
  have lpart : (Str.ofString "part" : Str) = S [112, 97, 114, 116] := by decide
  have lfun : (Str.ofString "fun" : Str) = S [102, 117, 110] := by decide
  refine q_asgL (el_split (a := told) (b := [32]) (ev_var rfl) (by rw [← l32]; exact ev_c) (by decide) (by decide) hl) fun wd H1 hwd0 e1 hwd => ?_
  have hw1 : 1 ≤ (TL.spl [32] 0 [] told).length := by
    cases z : TL.spl [32] 0 [] told with
    | nil => exact absurd z spl_ne
    | cons a b => simp
  have hwl : ∀ y ∈ TL.spl [32] 0 [] told, y.length ≤ 9000 := fun y hy => by have := (@spl_len [32] told 0 []).2 y hy; simp at this; omega
  have hrl : readLine told = (let words := TL.spl [32] 0 [] told
      if 120 < words.length then none
      else if words.getD 0 [] = [114, 117, 110] then (readExpr words 1).map fun ns => ⟨[114, 117, 110], told, ns⟩
      else if words.getD 0 [] = [112, 97, 114, 116] ∧ 2 < words.length ∧ okFree (words.getD 1 []) = true ∧ words.getD 2 [] = [102, 117, 110] then (readExpr words 2).map fun ns => ⟨words.getD 1 [], told, ns⟩
      else none) := rfl
  generalize hws : TL.spl [32] 0 [] told = ws at *
  dsimp only at hrl
  have lw : (ws.map fun x => V.str (S x)).length = ws.length := by simp
  have wix : ∀ {σ : L2.St} {G : Hp} {n : Nat} {tn : TE}, Ex H1 G → n < ws.length → σ[1]? = some (some (.ref wd)) → Ev tn σ G (.int n) → Ev (tOp (rIxL K) (tVar 1) tn) σ G (.str (S (ws.getD n []))) := fun {σ G n tn} e hn hσ ht => ev_op (ev_var hσ) ht (rv_ixL (sq_of (e _ _ hwd)) (atI_ws hn))
  refine q_when (b := decide (120 < ws.length)) (et_is (et_test (ev_op (ev_len (ev_var rfl) (sq_of hwd)) ev_c rv_I0)) (by rw [lw]; exact decide_eq_decide.mpr (by omega))) (fun hb H2 e2 => ?_) (fun hb H2 e2 => ?_)
  · rw [if_pos (of_decide_eq_true hb)] at hrl
    exact s_ret ev_c fun H3 e3 => k0 hrl H3 ((e1.trans e2).trans e3)
  · have h120 : ¬ 120 < ws.length := of_decide_eq_false hb
    rw [if_neg h120] at hrl
    refine q_cut (M := fun σ G => ∃ (x : Wd) (st : Nat), σ = [some (.str (S told)), some (.ref wd), some (.str (S x)), some (.int st), none] ∧ Ex H2 G ∧ st ≤ 2 ∧ x.length ≤ 9000 ∧ readLine told = (readExpr ws st).map fun ns => ⟨x, told, ns⟩) ?_ ?_
    · refine s_if (b := decide (ws.getD 0 [] = [114, 117, 110])) (et_is (et_test (ev_op (wix (n := 0) e2 (by omega) rfl ev_c) ev_c (rv_eq rfl))) (by rw [lrun]; exact S_eqc)) (fun hb1 H3 e3 => ?_) (fun hb1 H3 e3 => ?_)
      · rw [if_pos (of_decide_eq_true hb1)] at hrl
        exact s_twoT (x := .str (S [114, 117, 110])) (y := .int 1) (by rw [← lrun]; exact ev_c) ev_c fun H4 e4 => ⟨[114, 117, 110], 1, rfl, e3.trans e4, by omega, by simp, hrl⟩
      · rw [if_neg (of_decide_eq_false hb1)] at hrl
        refine s_if (b := decide (ws.getD 0 [] = [112, 97, 114, 116] ∧ 2 < ws.length ∧ okFree (ws.getD 1 []) = true ∧ ws.getD 2 [] = [102, 117, 110])) (et_is (et_and (a := decide (ws.getD 0 [] = [112, 97, 114, 116])) (b := decide (2 < ws.length) && (okFree (ws.getD 1 []) && decide (ws.getD 2 [] = [102, 117, 110])))
            (et_is (et_test (ev_op (wix (n := 0) (e2.trans e3) (by omega) rfl ev_c) ev_c (rv_eq rfl))) (by rw [lpart]; exact S_eqc)) fun _ => et_and (et_is (et_test (ev_op (ev_len (ev_var rfl) (sq_of ((e2.trans e3) _ _ hwd))) ev_c rv_I0)) (by rw [lw]; norm_cast)) fun h2 => ?_) ?_) (fun hb2 H4 e4 => ?_) (fun hb2 H4 e4 => ?_)
        · have h2' : 2 < ws.length := of_decide_eq_true h2
          exact et_and (et_B (ev_call (ea_cons (wix (n := 1) (e2.trans e3) (by omega) rfl ev_c) ea_nil) fun H5 e5 Q' q E' => ⟨_, rfl, hwl _ (mem_ws (by omega)), q⟩)) fun _ => et_is (et_test (ev_op (wix (n := 2) (e2.trans e3) (by omega) rfl ev_c) ev_c (rv_eq rfl))) (by rw [lfun]; exact S_eqc)
        · simp only [Bool.decide_and, Bool.decide_eq_true]
        · have hb2' := of_decide_eq_true hb2
          rw [if_pos hb2'] at hrl
          exact s_par (x := .str (S (ws.getD 1 []))) (y := .int 2) (ea_cons (wix (n := 1) ((e2.trans e3).trans e4) (by omega) rfl ev_c) (ea_cons ev_c ea_nil)) fun H5 e5 => ⟨_, 2, rfl, (e3.trans e4).trans e5, by omega, hwl _ (mem_ws (by omega)), hrl⟩
        · rw [if_neg (of_decide_eq_false hb2)] at hrl
          exact s_ret ev_c fun H5 e5 => k0 hrl H5 ((((e1.trans e2).trans e3).trans e4).trans e5)
    · rintro σ' G ⟨x, st, rfl, eG, hst, hxl, hrr⟩
      have e1G := e2.trans eG
      refine q_callA (vs := [.str (S x), .ref wd, .int st]) (ea_cons (ev_var rfl) (ea_cons (ev_var rfl) (ea_cons (ev_var rfl) ea_nil))) fun H3 e3 => ?_
      have e13 := e1G.trans e3
      refine ⟨wd, .str (S x), ws, st, rfl, e13 _ _ hwd, by omega, hwl, by omega, fun hn H4 e4 => ?_, fun ns hn rs nl H4 e4 N4 hnl hnl4 hf hbd => ?_⟩
      · rw [hn] at hrr
        exact s_ret (ev_if (b := true) (et_in (ev_var rfl)) (fun _ => ev_c) fun z => (by cases z)) fun H5 e5 => k0 hrr H5 (((e1.trans e13).trans e4).trans e5)
      · rw [hn] at hrr
        have hrr' : readLine told = some ⟨x, told, ns⟩ := hrr
        have eall := e1.trans (e13.trans e4)
        refine ⟨_, rfl, false, ?_, ?_⟩
        · simp
        · refine r_make (vs := [.str (S x), .str (S told), .ref nl]) (ea_cons (ev_var rfl) (ea_cons (ev_var rfl) (ea_cons (ev_var rfl) ea_nil))) fun H5 e5 p dx hp hdx hne => ?_
          have x6 : Ex H5 (upd (upd H5 dx (.own p)) p (.ins CL dx [])) := ex_put hp (ex_put hdx (Ex.refl H5))
          have e56 := e5.trans x6
          refine ⟨p, dx, nl, rs, ⟨x, told, ns⟩, rfl, upd_same, N4.ex e56, e56 _ _ hnl4, hbd, readExpr_named hn, fun nm H7 K7 hnm L7 => ⟨rfl, ?_⟩⟩
          have hp0 : H p = none := fresh_back (eall.trans e5) hp
          have ex7 : Ex H H7 := fun c o hc => K7 c o (fun z => by rw [z, hp0] at hc; cases hc) ((eall.trans e56) c o hc)
          refine k1 _ hrr' ⟨p, dx, nl, nm, rs⟩ H7 ex7 L7 (fun i hi => fresh_back (e1.trans e13) (hf i hi)) hp0 (fresh_back (e1.trans e13) hnl) (fresh_back (eall.trans e56) hnm)
end
end K5
set_option Elab.async false
set_option linter.all false
set_option maxRecDepth 100000
set_option maxHeartbeats 4000000
namespace K5
open PySem PySem.Spec PyProof.Rows L2 Evl Xl SX Mi
def LR (lrs : List LRec) (i : Nat) : LRec := lrs.getD i default
def lnth (ls : List Ln) (i : Nat) : Ln := ls.getD i default
def lrefs (lrs : List LRec) : List V := lrs.map fun r => .ref r.a
structure Lns (CL C : Addr) (lrs : List LRec) (ls : List Ln) (H : Hp) : Prop where
  len : lrs.length = ls.length
  at_ : ∀ i, i < ls.length → LineAt CL C H (LR lrs i) (lnth ls i)
theorem Lns.ex {CL C : Addr} {lrs : List LRec} {ls : List Ln} {H H' : Hp} (h : Lns CL C lrs ls H) (e : Ex H H') : Lns CL C lrs ls H' := ⟨h.len, fun i hi => (h.at_ i hi).ex e⟩
theorem inV_map {x : Wd} {l : List Wd} : inV (.str (S x)) (l.map fun y => .str (S y)) = decide (x ∈ l) := by
  induction l with
  | nil => rfl
  | cons a r ih =>
    show ((S a == S x) || inV (.str (S x)) (r.map fun y => .str (S y))) = _
    rw [ih, S_beq_eq]
    by_cases h : a = x
    · subst h; simp
    · have h2 : ¬ x = a := fun z => h z.symm
      simp [h, h2]
theorem flat_map {l : List Wd} : (l.map fun y => V.str (S y)).all flatV = true := by simp [flatV]
theorem ls_range {ls : List Ln} : ls = (List.range ls.length).map (lnth ls) := by
  refine List.ext_getElem (by simp) fun i h1 h2 => ?_
  unfold lnth
  simp [List.getD_eq_getElem?_getD, h1]
theorem given_ls {ls : List Ln} (g : Ln → V) : given ls.length (fun _ => true) (fun i => g (lnth ls i)) = ls.map g := by
  unfold given
  conv => rhs; rw [ls_range (ls := ls)]
  rw [List.map_map, List.filter_eq_self.mpr fun _ _ => rfl]
  rfl
theorem given_ws {zs : List Wd} (g : Wd → V) : given zs.length (fun _ => true) (fun i => g (zs.getD i [])) = zs.map g := by
  unfold given
  rw [List.filter_eq_self.mpr fun _ _ => rfl]
  refine List.ext_getElem (by simp) fun i h1 h2 => ?_
  have h3 : i < zs.length := by simpa using h2
  simp [List.getD_eq_getElem?_getD, h3]
theorem names_bd {l : Ln} (h : l.nodes.length ≤ 300) : l.names.length ≤ 300 := by
  unfold Ln.names
  rw [List.length_map]
  exact Nat.le_trans (List.length_filter_le _ _) h
theorem lrefs_at {CL C : Addr} {lrs : List LRec} {ls : List Ln} {H : Hp} (h : Lns CL C lrs ls H) {i : Nat} {x : V} (hx : (lrefs lrs)[i]? = some x) : i < ls.length ∧ x = .ref (LR lrs i).a := by
  unfold lrefs at hx
  rw [List.getElem?_map] at hx
  cases z : lrs[i]? with
  | none => rw [z] at hx; cases hx
  | some r =>
    rw [z] at hx
    have hi : i < lrs.length := (List.getElem?_eq_some_iff.mp z).1
    refine ⟨by rw [← h.len]; exact hi, ?_⟩
    unfold LR
    rw [List.getD_eq_getElem?_getD, z]
    exact (Option.some.inj hx).symm
section
variable {P : Program} {w : World} {K : PySem.W.Frag} {mg : Str → Option Value} {base : Heap} {f : Addr} {fd : FuncData}
theorem el_lnames {CL C : Addr} {lrs : List LRec} {ls : List Ln} {H : Hp} {σ : L2.St} {al : Addr} {tl : TE} {j : Nat} {vs : List Nat} (T : LineC K mg CL) (h : Lns CL C lrs ls H) (ht : Ev tl σ H (.ref al)) (ha : H al = some (.lst (lrefs lrs))) (hl : ls.length ≤ 1000)
    (hw : ∀ y, wipe ((wipe σ vs).set j (some y)) vs = wipe σ vs) (hj : ∀ y, ((wipe σ vs).set j (some y))[j]? = some (some y)) : EvL (tLc (iList K tl) (gName j) tYes (tFld K (tVar j) "name") vs) σ H ((ls.map (·.name)).map fun x => .str (S x)) := by
  have lx : (lrefs lrs).length = ls.length := by unfold lrefs; rw [List.length_map, h.len]
  have g := el_lcL (K := K) (te := tFld K (tVar j) "name") (t := tYes) (j := j) (vs := vs) (fun _ => true) (fun i => .str (S (lnth ls i).name)) ht (sq_of ha) (by rw [lx]; omega) hw (fun i x H1 e1 hx => fun H2 e2 Q q => q H2 (Ex.refl H2)) fun i x H1 e1 hx _ => by
    obtain ⟨hi, rfl⟩ := lrefs_at h hx
    exact ev_fld (ev_var (hj _)) (e1 _ _ (h.at_ i hi).ins) T.cl T.n1 rfl
  rw [lx, given_ls fun o => .str (S o.name)] at g
  rw [List.map_map]
  exact g
def spCan (CL C : Addr) : Sp := fun vs H Q _ => ∃ (r : LRec) (l : Ln) (lrs : List LRec) (ls : List Ln) (al : Addr), vs = [.ref r.a, .ref al] ∧ LineAt CL C H r l ∧ Lns CL C lrs ls H ∧ H al = some (.lst (lrefs lrs)) ∧ ls.length ≤ 1000 ∧ ∀ H', Ex H H' → Q (.bl (canStand l ls)) H'
abbrev nC : List Str := ["line", "ahead", "names", "other", "name"]
theorem scC : FnScope nC ["line", "ahead"] (C8.fnScope (top 32)) := C8.fnScope_by (by decide +kernel)
theorem ok_can {CL C : Addr} (F : C8.Def K mg "can_stand" (top 32) f fd) (b : Binds K fd ["line", "ahead"] []) (T : Txt2 K w mg) (L : LineC K mg CL) : C8.Cal P w K mg base 1 "can_stand" (spCan CL C) [] := by
  obtain ⟨tp, mp⟩ := T.mostP
  refine C8.cal0 F b .nil scC (fun vs H Q E h => by obtain ⟨r, l, lrs, ls, al, rfl, _⟩ := h; rfl) (fun cdv A outer s H vs Q E hr h => ?_)
  obtain ⟨r, l, lrs, ls, al, rfl, hl, hls, hal, hlen, k⟩ := h
  refine ⟨_, pss_cons (ps_set (i := 2) scC.nd rfl (Or.inr rfl) (pe_lc (own := [("other", 3)]) (g := gName 3) (tt := tYes) (te := tFld K (tVar 3) "name") rfl scC.nd (pi_list (pv 1)) (blkOk_by (N := nC) (sc := C8.fnScope (top 32)) (by decide +kernel))
      (fun _ _ _ _ _ => pg_name (i := 3) scC.nd rfl (Or.inl rfl)) (fun _ _ _ _ _ => pts_nil) (fun _ _ _ _ _ => pe_fld (pv 3) (by rfl))))
    (pss_cons (ps_if (pw_or (pt_cmpR op_in_seq pe_str (pv 2) rfl) (pw_or1 (pt_cmpR op_in_seq (pe_fld (pv 0) rfl) (pv 2) rfl))).pt (pss_one (ps_ret pe_bl)) pss_nil)
    (pss_cons (ps_if (pw_and (pt_cmpR op_ne (pe_fld (pv 0) rfl) pe_str (nomark _)) (pw_and1 (pt_cmpR op_eq (pe_callB call_len_seq (by rfl) T.len_ boot_len (pa_cons (pv 2) pa_nil)) (pe_glob (v := .int 12) (by rfl) mp ⟨tp, rfl⟩) (nomark _)))).pt (pss_one (ps_ret pe_bl)) pss_nil)
    (pss_cons (ps_if (pw_or (pt_cmpR op_in_seq (pe_fld (pv 0) rfl) (pe_fld (pv 0) rfl) rfl) (pw_or1 (pt_val (pe_callB (cr_any rfl) (by rfl) T.any_ boot_any (pa_cons (pe_lc (own := [("other", 3)]) (g := gName 3) (tt := tYes) (te := tOp (rIn K false) (tFld K (tVar 0) "name") (tFld K (tVar 3) "names")) rfl scC.nd (pi_list (pv 1)) (blkOk_by (N := nC) (sc := C8.fnScope (top 32)) (by decide +kernel))
          (fun _ _ _ _ _ => pg_name (i := 3) scC.nd rfl (Or.inl rfl)) (fun _ _ _ _ _ => pts_nil) (fun _ _ _ _ _ => pe_cmpR op_in_seq (pe_fld (pv 0) (by rfl)) (pe_fld (pv 3) (by rfl)) rfl)) pa_nil))))).pt (pss_one (ps_ret pe_bl)) pss_nil)
    (pss_one (ps_ret (pe_not (pe_callB (cr_any rfl) (by rfl) T.any_ boot_any (pa_cons (pe_lc (own := [("name", 4)]) (g := gName 4) (tt := tYes) (te := tOp (rIn K false) (tVar 4) (tVar 2)) rfl scC.nd (pi_list (pe_fld (pv 0) rfl)) (blkOk_by (N := nC) (sc := C8.fnScope (top 32)) (by decide +kernel))
          (fun _ _ _ _ _ => pg_name (i := 4) scC.nd rfl (Or.inl rfl)) (fun _ _ _ _ _ => pts_nil) (fun _ _ _ _ _ => pe_cmpR op_in_seq (pv 4) (pv 2) rfl)) pa_nil)))))))), ?_⟩
  have lrun : (Str.ofString "run" : Str) = S [114, 117, 110] := by decide
  have lx : (lrefs lrs).length = ls.length := by unfold lrefs; rw [List.length_map, hls.len]
  refine q_asgL (el_lnames (j := 3) L hls (ev_var rfl) hal hlen (fun y => rfl) fun y => rfl) fun nm H1 hnm0 e1 hnm => ?_
  have hcs : canStand l ls = (let names := ls.map (·.name)
      if [114, 117, 110] ∈ names ∨ l.name ∈ names then false
      else if l.name ≠ [114, 117, 110] ∧ names.length = 12 then false
      else if l.name ∈ l.names ∨ (ls.any fun o => decide (l.name ∈ o.names)) = true then false
      else !(l.names.any fun n => decide (n ∈ names))) := rfl
  generalize hNM : ls.map (·.name) = NM at *
  dsimp only at hcs
  have name_ : ∀ {σ : L2.St} {G : Hp}, Ex H G → σ[0]? = some (some (.ref r.a)) → Ev (tFld K (tVar 0) "name") σ G (.str (S l.name)) := fun e hσ => ev_fld (ev_var hσ) (e _ _ hl.ins) L.cl L.n1 rfl
  refine q_when (b := decide ([114, 117, 110] ∈ NM ∨ l.name ∈ NM)) (et_is (et_or (a := decide ([114, 117, 110] ∈ NM)) (b := decide (l.name ∈ NM)) (et_is (et_test (ev_op ev_c (ev_var rfl) (rv_isL (sq_of hnm) rfl flat_map))) (by rw [lrun]; exact inV_map))
      fun _ => et_is (et_test (ev_op (name_ e1 rfl) (ev_var rfl) (rv_isL (sq_of hnm) rfl flat_map))) inV_map) (by simp)) (fun hb H2 e2 => ?_) (fun hb H2 e2 => ?_)
  · rw [if_pos (of_decide_eq_true hb)] at hcs
    rw [hcs] at k
    exact s_ret ev_c fun H3 e3 => k H3 ((e1.trans e2).trans e3)
  · rw [if_neg (of_decide_eq_false hb)] at hcs
    have e12 := e1.trans e2
    refine q_when (b := decide (l.name ≠ [114, 117, 110] ∧ NM.length = 12)) (et_is (et_and (a := !decide (l.name = [114, 117, 110])) (b := decide (NM.length = 12)) (et_is (et_test (ev_op (name_ e12 rfl) ev_c (rv_ne rfl))) (by rw [lrun, S_eqc]))
        fun _ => et_is (et_test (ev_op (ev_len (ev_var rfl) (sq_of (e2 _ _ hnm))) ev_c (rv_eq rfl))) (by
          refine decide_eq_decide.mpr ⟨fun z => ?_, fun z => ?_⟩
          · have z2 := V.int.inj z
            rw [List.length_map] at z2
            omega
          · rw [List.length_map, z]; rfl)) (by simp)) (fun hb2 H3 e3 => ?_) (fun hb2 H3 e3 => ?_)
    · rw [if_pos (of_decide_eq_true hb2)] at hcs
      rw [hcs] at k
      exact s_ret ev_c fun H4 e4 => k H4 ((e12.trans e3).trans e4)
    · rw [if_neg (of_decide_eq_false hb2)] at hcs
      have e13 := e12.trans e3
      have anyE : EvL (tLc (iList K (tVar 1)) (gName 3) tYes (tOp (rIn K false) (tFld K (tVar 0) "name") (tFld K (tVar 3) "names")) [3]) ([some (.ref r.a), some (.ref al), some (.ref nm), none, none] : L2.St) H3 ((ls.map fun o => decide (l.name ∈ o.names)).map V.bl) := by
        have g := el_lcL (K := K) (te := tOp (rIn K false) (tFld K (tVar 0) "name") (tFld K (tVar 3) "names")) (t := tYes) (j := 3) (vs := [3]) (σ := ([some (.ref r.a), some (.ref al), some (.ref nm), none, none] : L2.St)) (H := H3) (tl := tVar 1) (fun _ => true) (fun i => .bl (decide (l.name ∈ (lnth ls i).names))) (ev_var rfl) (sq_of (e13 _ _ hal)) (by rw [lx]; omega) (fun _ => rfl) (fun i x H4 e4 hx => fun H5 e5 Q q => q H5 (Ex.refl H5)) fun i x H4 e4 hx _ => by
          obtain ⟨hi, rfl⟩ := lrefs_at hls hx
          have la := (hls.at_ i hi).ex (e13.trans e4)
          exact ev_is (ev_op (name_ (e13.trans e4) rfl) (ev_fld (ev_var rfl) la.ins L.cl L.n4 rfl) (rv_isL (sq_of la.nm) rfl flat_map)) (by rw [inV_map])
        rw [lx, given_ls fun o => .bl (decide (l.name ∈ o.names))] at g
        rw [List.map_map]
        exact g
      have lal := hl.ex e13
      refine q_when (b := decide (l.name ∈ l.names ∨ (ls.any fun o => decide (l.name ∈ o.names)) = true)) (et_is (et_or (a := decide (l.name ∈ l.names)) (b := ls.any fun o => decide (l.name ∈ o.names)) (et_is (et_test (ev_op (name_ e13 rfl) (ev_fld (ev_var rfl) lal.ins L.cl L.n4 rfl) (rv_isL (sq_of lal.nm) rfl flat_map))) inV_map)
          fun _ => et_B (ev_is (ev_any anyE) (by rw [List.any_map]; rfl))) (by simp only [Bool.decide_or, Bool.decide_eq_true])) (fun hb3 H4 e4 => ?_) (fun hb3 H4 e4 => ?_)
      · rw [if_pos (of_decide_eq_true hb3)] at hcs
        rw [hcs] at k
        exact s_ret ev_c fun H5 e5 => k H5 ((e13.trans e4).trans e5)
      · rw [if_neg (of_decide_eq_false hb3)] at hcs
        have e14 := e13.trans e4
        have la4 := hl.ex e14
        have lnl : (l.names.map fun x => V.str (S x)).length = l.names.length := by simp
        have anyN : EvL (tLc (iList K (tFld K (tVar 0) "names")) (gName 4) tYes (tOp (rIn K false) (tVar 4) (tVar 2)) [4]) ([some (.ref r.a), some (.ref al), some (.ref nm), none, none] : L2.St) H4 ((l.names.map fun n => decide (n ∈ NM)).map V.bl) := by
          have g := el_lcL (K := K) (te := tOp (rIn K false) (tVar 4) (tVar 2)) (t := tYes) (j := 4) (vs := [4]) (σ := ([some (.ref r.a), some (.ref al), some (.ref nm), none, none] : L2.St)) (H := H4) (tl := tFld K (tVar 0) "names") (fun _ => true) (fun i => .bl (decide (l.names.getD i [] ∈ NM))) (ev_fld (ev_var rfl) la4.ins L.cl L.n4 rfl) (sq_of la4.nm) (by rw [lnl]; have := names_bd hl.bd; omega) (fun _ => rfl) (fun i x H5 e5 hx => fun H6 e6 Q q => q H6 (Ex.refl H6)) fun i x H5 e5 hx _ => by
            have hx2 : x = .str (S (l.names.getD i [])) := by
              rw [List.getElem?_map] at hx
              cases z : l.names[i]? with
              | none => rw [z] at hx; cases hx
              | some y => rw [z] at hx; rw [List.getD_eq_getElem?_getD, z]; exact (Option.some.inj hx).symm
            subst hx2
            exact ev_is (ev_op (ev_var rfl) (ev_var rfl) (rv_isL (sq_of ((((e2.trans e3).trans e4).trans e5) _ _ hnm)) rfl flat_map)) (by rw [inV_map])
          rw [lnl, given_ws fun x => .bl (decide (x ∈ NM))] at g
          rw [List.map_map]
          exact g
        rw [hcs] at k
        exact s_ret (ev_is (ev_notV (ev_any anyN)) (by rw [List.any_map]; rfl)) fun H5 e5 => k H5 (e14.trans e5)
end
end K5
set_option Elab.async false
set_option linter.all false
set_option maxRecDepth 100000
set_option maxHeartbeats 4000000
namespace K5
open PySem PySem.Spec PyProof.Rows L2 Evl Xl SX Mi
/-! ### errors -/
structure ErrC (K : PySem.W.Frag) (mg : Str → Option Value) (x : Str) (C fI : Addr) : Prop where
  mgC : mg x = some (.ref C)
  ox : OexC K C
  iC : PySem.W.findIn K (.ref C) "__init__" = some (some (.ref fI))
  tI : PySem.W.typeIn K (.ref fI) = some (.type "function")
  noV : PySem.W.findIn K (.ref C) "value" = some none
def spErr (K : PySem.W.Frag) : Sp := fun vs H Q _ => ∃ (a C : Addr) (v : V), vs = [.ref a, v] ∧ OexC K C ∧ PySem.W.findIn K (.ref C) "value" = some none ∧ H a = some (exo a C none) ∧ ∀ dx, H dx = none → dx ≠ a → Q .non (upd (upd H dx (exd dx [("value", v)])) a (exo a C (some dx)))
abbrev sErr : Stmt := inClass (top 2) 0
theorem scErr : FnScope ["self", "value"] ["self", "value"] (C8.fnScope sErr) := C8.fnScope_by (by decide +kernel)
section
variable {P : Program} {w : World} {K : PySem.W.Frag} {mg : Str → Option Value} {base : Heap} {f : Addr} {fd : FuncData}
theorem ok_err (F : C8.Fun K "__init__" "UseError.__init__" sErr f fd) : FnOk P w K mg base C8.CX0 1 f fd ["self", "value"] (spErr K) := by
  refine C8.fn0 F scErr (fun vs H Q E h => by obtain ⟨a, C, v, rfl, _⟩ := h; rfl) (fun cdv A outer s H vs Q E hr h => ?_)
  obtain ⟨a, C, v, rfl, ox, nv, ha, k⟩ := h
  refine ⟨_, pss_one (ps_ost (pv 0) (pv 1)), ?_⟩
  exact ⟨_, rfl, _, rfl, a, C, rfl, ox, nv, .inl ⟨ha, fun dx h1 h2 => k dx h1 h2⟩⟩
theorem r_err {C fI : Addr} {x : Str} {ta : TA} {σ : L2.St} {H : Hp} {v : V} {E : XK} (T : ErrC K mg x C fI) (h : EvA ta σ H [v]) (k : ∀ d H', Ex H H' → H d = none → H' d = some (.xd [("value", v)]) → E (.ref C) (some d) H') :
    tMkO C (spErr K) [] ta σ H fun cls d H' => E cls d H' := by
  refine h H (Ex.refl H) _ fun H1 e1 => ⟨by show 1 ≤ 1000; decide, fun a ha => ⟨a, C, v, rfl, T.ox, T.noV, upd_same, fun dx h1 h2 => ⟨rfl, dx, [("value", v)], upd_same, ?_, ?_, ?_⟩⟩⟩
  · exact (upd_ne h2).trans upd_same
  · exact (upd_ne h2).symm.trans h1
  · have hdx : H1 dx = none := (upd_ne h2).symm.trans h1
    refine k dx _ (fun c o hc => ?_) (fresh_back e1 hdx) upd_same
    have c1 : c ≠ a := fun z => by rw [z, fresh_back e1 ha] at hc; cases hc
    have c2 : c ≠ dx := fun z => by rw [z, fresh_back e1 hdx] at hc; cases hc
    rw [upd_ne c2]
    unfold del
    rw [if_neg c1, upd_ne c1, upd_ne c2, upd_ne c1]
    exact e1 _ _ hc
theorem fnX {x qual : Str} {st : Stmt} {N ps : List Str} {k : Nat} {sp : Sp} (F : C8.Fun K x qual st f fd) (S : FnScope N ps (C8.fnScope st)) (len : ∀ vs H Q E, sp vs H Q E → vs.length = ps.length)
    (hbody : ∀ (cdv : Value) (A : Around) (outer : List Env) (s : Shared) (H : Hp) (vs : List V) (Q : VK) (E : XK), Room k (A.deeper (envOfC qual (C8.fnScope st) s.heap.objs.size f cdv)) → sp vs H Q E →
      ∃ t, PSs (cxOf (L2.CX P w) P w K mg base N qual (C8.fnScope st) f cdv A outer s H E) (C8.fnBody st) t ∧ t { nx := fun _ H' => Q .non H', rt := Q } (start N vs) H) : FnOk P w K mg base (L2.CX P w) (k + 1) f fd ps sp := by
  obtain ⟨oc, od, dV, kV, doc, pm, an, cdv, ct, osl, rfl, lk, hcd⟩ := F.ex
  exact fn_of lk hcd S len fun A outer s H vs Q E hr hsp => hbody cdv A outer s H vs Q E hr hsp
end
/-! ### loops of enumerate -/
theorem q_forE {K : PySem.W.Frag} {k₀ : Int} {te : TE} {σ : L2.St} {H : Hp} {xs : List V} {g : TG} {tu tz : TS} {D : Ends} (h : EvL te σ H xs) (Pv : Addr → Nat → L2.St → Hp → Prop) (h0 : ∀ a H1, H a = none → Ex H H1 → H1 a = some (.lst xs) → Pv a 0 σ H1)
    (hs : ∀ a i σ' H', Pv a i σ' H' → SqL K H' a xs)
    (ht : ∀ a i x σ' H' T, xs[i]? = some x → Pv a i σ' H' → H' T = none → g (.ref T) σ' (upd H' T (.tup [.int (k₀ + i), x])) fun σ2 H2 => tu { nx := Pv a (i + 1), rt := D.rt, bk := tz D, ct := Pv a (i + 1) } σ2 H2)
    (hd : ∀ a σ' H', Pv a xs.length σ' H' → tz D σ' H') : tSeq (tFor (Xe.iEnumK K k₀ (tCons te tNil)) g tu) tz D σ H :=
  h H (Ex.refl H) _ fun a H1 ha e1 hx => ⟨a, xs, rfl, sq_of hx, Xe.for_enumK (Pv a) (h0 a H1 ha e1 hx) (fun i σ' H' _ p => hs a i σ' H' p) (fun i x σ' H' T hx' p hT => ht a i x σ' H' T hx' p hT) fun σ' H' p => hd a σ' H' p⟩
theorem q_forEv {K : PySem.W.Frag} {k₀ : Int} {te : TE} {σ : L2.St} {H : Hp} {a : Addr} {xs : List V} {g : TG} {tu tz : TS} {D : Ends} (h : Ev te σ H (.ref a)) (hx : SqL K H a xs) (Pv : Nat → L2.St → Hp → Prop) (h0 : ∀ H1, Ex H H1 → Pv 0 σ H1)
    (hs : ∀ i σ' H', Pv i σ' H' → SqL K H' a xs)
    (ht : ∀ i x σ' H' T, xs[i]? = some x → Pv i σ' H' → H' T = none → g (.ref T) σ' (upd H' T (.tup [.int (k₀ + i), x])) fun σ2 H2 => tu { nx := Pv (i + 1), rt := D.rt, bk := tz D, ct := Pv (i + 1) } σ2 H2)
    (hd : ∀ σ' H', Pv xs.length σ' H' → tz D σ' H') : tSeq (tFor (Xe.iEnumK K k₀ (tCons te tNil)) g tu) tz D σ H :=
  h H (Ex.refl H) _ fun H1 e1 => ⟨a, xs, rfl, hx.imp (ex_rd e1) id, Xe.for_enumK Pv (h0 H1 e1) (fun i σ' H' _ p => hs i σ' H' p) (fun i x σ' H' T hx' p hT => ht i x σ' H' T hx' p hT) hd⟩
theorem g_two {K : PySem.W.Frag} {σ : L2.St} {H : Hp} {T : Addr} {x y : V} {i j : Nat} {R : L2.St → Hp → Prop} (hT : H T = some (.tup [x, y])) (k : R ((σ.set i (some x)).set j (some y)) H) : gTup K 2 (gCons (gName i) (gCons (gName j) gNil)) (.ref T) σ H R :=
  ⟨T, _, rfl, st_of hT, rfl, x, [y], rfl, y, [], rfl, rfl, k⟩
theorem cut_last {xs : List V} (h : xs ≠ []) : cutV xs none (some (-1)) = xs.dropLast := by
  have h1 : 1 ≤ xs.length := by cases xs with | nil => exact absurd rfl h | cons a b => simp
  unfold cutV
  rw [List.dropLast_eq_take]
  have a1 : HT.sIx xs.length 0 none = 0 := rfl
  have a2 : HT.sIx xs.length xs.length (some (-1)) = xs.length - 1 := by
    unfold HT.sIx
    simp
    omega
  rw [a1, a2]
  simp
end K5
set_option Elab.async false
set_option linter.all false
set_option maxRecDepth 100000
set_option maxHeartbeats 4000000
namespace K5
open PySem PySem.Spec PyProof.Rows L2 Evl Xl SX Mi
/-- the line's lists are not the list at p -/
def Apart (p : Addr) (r : LRec) (l : Ln) : Prop := r.nl ≠ p ∧ r.nm ≠ p ∧ ∀ i, i < l.nodes.length → (R r.rs i).w ≠ p
theorem LineAt.other {CL C p : Addr} {H : Hp} {r : LRec} {l : Ln} {xs ys : List V} (h : LineAt CL C H r l) (hp : H p = some (.lst xs)) (ap : Apart p r l) : LineAt CL C (upd H p (.lst ys)) r l := by
  have n1 : r.a ≠ p := fun z => by have := h.ins; rw [z, hp] at this; cases this
  exact ⟨(upd_ne n1).trans h.ins, h.nds.other hp ap.2.2, (upd_ne ap.1).trans h.nl, (upd_ne ap.2.1).trans h.nm, h.bd⟩
theorem LR_app {lrs : List LRec} {r : LRec} {i : Nat} (h : i < lrs.length) : LR (lrs ++ [r]) i = LR lrs i := by
  unfold LR
  simp [List.getD_eq_getElem?_getD, List.getElem?_append_left h]
theorem LR_new {lrs : List LRec} {r : LRec} : LR (lrs ++ [r]) lrs.length = r := by
  unfold LR
  simp [List.getD_eq_getElem?_getD]
theorem lnth_app {ls : List Ln} {l : Ln} {i : Nat} (h : i < ls.length) : lnth (ls ++ [l]) i = lnth ls i := by
  unfold lnth
  simp [List.getD_eq_getElem?_getD, List.getElem?_append_left h]
theorem lnth_new {ls : List Ln} {l : Ln} : lnth (ls ++ [l]) ls.length = l := by
  unfold lnth
  simp [List.getD_eq_getElem?_getD]
theorem Lns.add {CL C : Addr} {lrs : List LRec} {ls : List Ln} {H : Hp} {r : LRec} {l : Ln} (h : Lns CL C lrs ls H) (hl : LineAt CL C H r l) : Lns CL C (lrs ++ [r]) (ls ++ [l]) H := by
  refine ⟨by simp [h.len], fun i hi => ?_⟩
  by_cases z : i < ls.length
  · rw [LR_app (h.len ▸ z), lnth_app z]; exact h.at_ i z
  · have : i = ls.length := by simp at hi; omega
    subst this
    rw [lnth_new, ← h.len, LR_new]
    exact hl
theorem TyB_ex {K : PySem.W.Frag} {H H' : Hp} {x : V} {t : String} (h : TyB K H x t) (e : Ex H H') : TyB K H' x t := by
  cases h with
  | non => exact .non
  | bl b => exact .bl b
  | int i => exact .int i
  | str x => exact .str x
  | byt b => exact .byt b
  | lst h => exact .lst (h.imp (ex_rd e) id)
  | tup h => exact .tup (h.imp (ex_rd e) id)
  | dK h => exact .dK (e _ _ h)
theorem el_lst0 {σ : L2.St} {H : Hp} : EvL (tLst tNil) σ H [] := fun H1 e Q q => ⟨by show 0 ≤ sizeLine; decide, fun p hp => q p _ hp (ex_put hp (Ex.refl H1)) upd_same⟩
theorem getLastD_lnth {ls : List Ln} (h : ls ≠ []) : ls.getLastD default = lnth ls (ls.length - 1) := by
  unfold lnth
  have h1 : 1 ≤ ls.length := by cases ls with | nil => exact absurd rfl h | cons a b => simp
  rw [List.getD_eq_getElem?_getD, ← List.getLast?_eq_getElem?]
  cases ls with
  | nil => exact absurd rfl h
  | cons a b => simp [List.getLastD, List.getLast?]
theorem el_lnamesN {K : PySem.W.Frag} {mg : Str → Option Value} {CL C : Addr} {lrs : List LRec} {ls : List Ln} {H : Hp} {σ : L2.St} {tl : TE} {j : Nat} {vs : List Nat} (T : LineC K mg CL) (h : Lns CL C lrs ls H) (ht : EvL tl σ H (lrefs lrs)) (hl : ls.length ≤ 1000)
    (hw : ∀ y, wipe ((wipe σ vs).set j (some y)) vs = wipe σ vs) (hj : ∀ y, ((wipe σ vs).set j (some y))[j]? = some (some y)) : EvL (tLc (iList K tl) (gName j) tYes (tFld K (tVar j) "name") vs) σ H ((ls.map (·.name)).map fun x => .str (S x)) := by
  have lx : (lrefs lrs).length = ls.length := by unfold lrefs; rw [List.length_map, h.len]
  have g := el_lcNL (K := K) (te := tFld K (tVar j) "name") (t := tYes) (j := j) (vs := vs) (fun _ => true) (fun i => .str (S (lnth ls i).name)) ht (by rw [lx]; omega) hw (fun i x H1 e1 hx => fun H2 e2 Q q => q H2 (Ex.refl H2)) fun i x H1 e1 hx _ => by
    obtain ⟨hi, rfl⟩ := lrefs_at h hx
    exact ev_fld (ev_var (hj _)) (e1 _ _ (h.at_ i hi).ins) T.cl T.n1 rfl
  rw [lx, given_ls fun o => .str (S o.name)] at g
  rw [List.map_map]
  exact g
theorem Lns.drop {CL C : Addr} {lrs : List LRec} {ls : List Ln} {H : Hp} (h : Lns CL C lrs ls H) : Lns CL C lrs.dropLast ls.dropLast H := by
  refine ⟨by simp [h.len], fun i hi => ?_⟩
  have hi' : i < ls.length - 1 := by simpa using hi
  have e1 : LR lrs.dropLast i = LR lrs i := by
    unfold LR
    rw [List.getD_eq_getElem?_getD, List.getD_eq_getElem?_getD, List.getElem?_dropLast, if_pos (by rw [h.len]; omega)]
  have e2 : lnth ls.dropLast i = lnth ls i := by
    unfold lnth
    rw [List.getD_eq_getElem?_getD, List.getD_eq_getElem?_getD, List.getElem?_dropLast, if_pos hi']
  rw [e1, e2]
  exact h.at_ i (by omega)
theorem known_given {NM : List Wd} {l : Ln} : given l.nodes.length (fun i => decide ((nth l.nodes i).kind = [112, 97, 114, 116])) (fun i => .bl (decide ((nth l.nodes i).sign ∈ NM))) = (((l.nodes.filter fun n => decide (n.kind = [112, 97, 114, 116])).map fun n => decide (n.sign ∈ NM))).map V.bl := by
  unfold given
  conv => rhs; rw [nds_range (ns := l.nodes)]
  rw [List.filter_map, List.map_map, List.map_map]
  rfl
theorem known_all {NM : List Wd} {l : Ln} : ((l.nodes.filter fun n => decide (n.kind = [112, 97, 114, 116])).map fun n => decide (n.sign ∈ NM)).all id = known NM l := by
  unfold known
  rw [List.all_map, List.all_filter]
  rfl
/-- the state at a turn of the first loop -/
structure RI (CL C : Addr) (H0 G : Hp) (ll : Addr) (lrs : List LRec) (ls : List Ln) : Prop where
  lns : Lns CL C lrs ls G
  gl : G ll = some (.lst (lrefs lrs))
  ap : ∀ i, i < ls.length → Apart ll (LR lrs i) (lnth ls i)
  ex : Ex H0 G
  f1 : H0 ll = none
section
variable {P : Program} {w : World} {K : PySem.W.Frag} {mg : Str → Option Value} {base : Heap} {f : Addr} {fd : FuncData}
def spRP (K : PySem.W.Frag) (CB CL C : Addr) : Sp := fun vs H Q E => ∃ x, vs = [x] ∧
  ((∃ T, TyB K H x T ∧ T ≠ "str" ∧ ∀ d H', Ex H H' → H d = none → H' d = some (.xd [("value", .int 0)]) → E (.ref CB) (some d) H') ∨
  ∃ text : Wd, x = .str (S text) ∧ text.length ≤ 900 ∧ (∀ e, readProg text = .error e → ∀ d H', Ex H H' → H d = none → H' d = some (.xd [("value", .int (e : Nat))]) → E (.ref CB) (some d) H') ∧
    ∀ ls, readProg text = .ok ls → ∀ (lrs : List LRec) (ll : Addr) (H' : Hp), Ex H H' → Lns CL C lrs ls H' → H' ll = some (.lst (lrefs lrs)) → H ll = none → ls ≠ [] → ls.length ≤ 1000 → Q (.ref ll) H')
abbrev nP : List Str := ["text", "lines", "number", "told", "line", "names", "node"]
theorem scP : FnScope nP ["text"] (C8.fnScope (top 30)) := C8.fnScope_by (by decide +kernel)
theorem ok_read_program {CB fI CL C : Addr} {fdI : FuncData} (F : C8.Def K mg "read_program" (top 30) f fd) (b : Binds K fd ["text"] []) (T : Txt2 K w mg) (N : NodeC K mg C) (L : LineC K mg CL) (B : ErrC K mg "BadProgram" CB fI) (FE : FnOk P w K mg base C8.CX0 1 fI fdI ["self", "value"] (spErr K)) (bE : Binds K fdI ["self", "value"] [])
    (cT : C8.Cal P w K mg base 1 "is_text" (spIsText K) []) (cR : C8.Cal P w K mg base 5 "read_line" (spRL CL C) []) (cC : C8.Cal P w K mg base 1 "can_stand" (spCan CL C) []) : FnOk P w K mg base (L2.CX P w) 6 f fd ["text"] (spRP K CB CL C) := by
  refine fnX F.fn scP (fun vs H Q E h => by obtain ⟨x, rfl, _⟩ := h; rfl) (fun cdv A outer s H vs Q E hr h => ?_)
  obtain ⟨x, rfl, h⟩ := h
  refine ⟨_, pss_cons (ps_if (pt_not (pt_val (C8.pe_c cT hr (by decide) (by rfl) (pa_cons (pv 0) pa_nil)))) (pss_one (ps_raise rfl (takes_of rfl rfl rfl rfl) (pmk_oex B.ox B.iC B.tI FE (hr.mono (by decide)) bE .nil C8.pass0 (by rfl) B.mgC (pa_cons pe_int pa_nil)))) pss_nil)
    (pss_cons (ps_set (i := 1) scP.nd rfl (Or.inl rfl) (pe_lst pa_nil))
    (pss_cons (ps_for PassesOwn.leaving rfl (Xe.pi_enumK (by rfl) T.enum_ (by decide) (pa_cons (pe_split (pv 0) pe_str) pa_nil)) (pg_tup (by rfl) (pgs_cons (pg_name (i := 2) scP.nd rfl (.inl rfl)) (pgs_cons (pg_name (i := 3) scP.nd rfl (.inl rfl)) pgs_nil)))
      (pss_cons (ps_set (i := 4) scP.nd rfl (Or.inl rfl) (C8.pe_c cR hr (by decide) (by rfl) (pa_cons (pv 3) pa_nil)))
      (pss_cons (ps_if (pw_or (pt_cmp (pc_isN (pv 4))) (pw_or1 (pt_not (pt_val (C8.pe_c cC hr (by decide) (by rfl) (pa_cons (pv 4) (pa_cons (pv 1) pa_nil))))))).pt
          (pss_one (ps_raise rfl (takes_of rfl rfl rfl rfl) (pmk_oex B.ox B.iC B.tI FE (hr.mono (by decide)) bE .nil C8.pass0 (by rfl) B.mgC (pa_cons (pv 2) pa_nil)))) pss_nil)
      (pss_one (ps_expr (pe_bm PySem.F.plainAttrs_list PySem.F.slot_list_append PySem.F.type_list_append mt_append (pv 1) (pa_cons (pv 4) pa_nil)))))))
    (pss_cons (ps_if (pt_cmpR op_ne (pe_fld (pe_ix ix_list (pv 1) (pe_un un_neg pe_int) (fun _ _ => rfl)) rfl) pe_str (nomark _))
        (pss_one (ps_raise rfl (takes_of rfl rfl rfl rfl) (pmk_oex B.ox B.iC B.tI FE (hr.mono (by decide)) bE .nil C8.pass0 (by rfl) B.mgC (pa_cons (pe_op op_add (pe_callB call_len_seq (by rfl) T.len_ boot_len (pa_cons (pv 1) pa_nil)) pe_int) pa_nil)))) pss_nil)
    (pss_cons (ps_set (i := 5) scP.nd rfl (Or.inr rfl) (pe_lc (own := [("line", 4)]) (g := gName 4) (tt := tYes) (te := tFld K (tVar 4) "name") rfl scP.nd (pi_list (pe_slice sl_list (pv 1) po_none (po_some (pe_un un_neg pe_int)))) (blkOk_by (N := nP) (sc := C8.fnScope (top 30)) (by decide +kernel))
          (fun _ _ _ _ _ => pg_name (i := 4) scP.nd rfl (Or.inl rfl)) (fun _ _ _ _ _ => pts_nil) (fun _ _ _ _ _ => pe_fld (pv 4) (by rfl))))
    (pss_cons (ps_for PassesOwn.leaving rfl (Xe.pi_enumK (by rfl) T.enum_ (by decide) (pa_cons (pv 1) pa_nil)) (pg_tup (by rfl) (pgs_cons (pg_name (i := 2) scP.nd rfl (.inl rfl)) (pgs_cons (pg_name (i := 4) scP.nd rfl (.inl rfl)) pgs_nil)))
      (pss_one (ps_if (pt_not (pt_val (pe_callB (cr_all rfl) (by rfl) T.all_ boot_all (pa_cons (pe_lc (own := [("node", 6)]) (g := gName 6) (tt := tTest (tOp rEq (tFld K (tVar 6) "kind") (tC (.str "part")))) (te := tOp (rIn K false) (tFld K (tVar 6) "sign") (tVar 5)) rfl scP.nd (pi_list (pe_fld (pv 4) rfl)) (blkOk_by (N := nP) (sc := C8.fnScope (top 30)) (by decide +kernel))
            (fun _ _ _ _ _ => pg_name (i := 6) scP.nd rfl (Or.inl rfl)) (fun _ _ _ _ _ => pts_one (pt_cmpR op_eq (pe_fld (pv 6) (by rfl)) pe_str (nomark _))) (fun _ _ _ _ _ => pe_cmpR op_in_seq (pe_fld (pv 6) (by rfl)) (pv 5) rfl)) pa_nil))))
          (pss_one (ps_raise rfl (takes_of rfl rfl rfl rfl) (pmk_oex B.ox B.iC B.tI FE (hr.mono (by decide)) bE .nil C8.pass0 (by rfl) B.mgC (pa_cons (pv 2) pa_nil)))) pss_nil)))
    (pss_one (ps_ret (pv 1)))))))), ?_⟩
  have lrun : (Str.ofString "run" : Str) = S [114, 117, 110] := by decide
  have lpart : (Str.ofString "part" : Str) = S [112, 97, 114, 116] := by decide
  have lnlf : (Str.ofString "\n" : Str) = S [10] := by decide
  rcases h with ⟨t, ht, hne, k⟩ | ⟨text, rfl, hlt, kE, kQ⟩
  · refine q_when (b := true) (et_is (et_not (et_B (b := false) (ev_call (ea_cons (ev_var rfl) ea_nil) fun H1 e1 Q' q E' => ⟨x, t, rfl, TyB_ex ht e1, by rw [decide_eq_false hne]; exact q H1 (Ex.refl H1)⟩))) rfl) (fun _ H1 e1 => ?_) (fun z => (by cases z))
    exact r_err B (ea_cons ev_c ea_nil) fun d H' e hd hd' => k d H' (e1.trans e) (fresh_back e1 hd) hd'
  · refine q_when (b := false) (et_is (et_not (et_B (b := true) (ev_call (ea_cons (ev_var rfl) ea_nil) fun H1 e1 Q' q E' => ⟨.str (S text), "str", rfl, .str _, by rw [decide_eq_true rfl]; exact q H1 (Ex.refl H1)⟩))) rfl) (fun z => (by cases z)) (fun _ H1 e1 => ?_)
    refine q_asgL el_lst0 fun ll H2 hll e2 hl2 => ?_
    have e12 := e1.trans e2
    have hll0 : H ll = none := fresh_back e1 hll
    have hw1 : 1 ≤ (TL.spl [10] 0 [] text).length := by
      cases z : TL.spl [10] 0 [] text with
      | nil => exact absurd z spl_ne
      | cons a b => simp
    have hwl : ∀ y ∈ TL.spl [10] 0 [] text, y.length ≤ 9000 := fun y hy => by have := (@spl_len [10] text 0 []).2 y hy; simp at this; omega
    have hw2 : (TL.spl [10] 0 [] text).length ≤ 901 := by have := (@spl_len [10] text 0 []).1; omega
    have hrp : readProg text = (match linesM (TL.spl [10] 0 [] text) [] with
        | .error e => .error e
        | .ok ls => if (ls.getLastD default).name ≠ [114, 117, 110] then .error (ls.length + 1)
          else match firstUnknown (ls.dropLast.map (·.name)) 1 ls with
            | some k => .error k
            | none => .ok ls) := rfl
    generalize hts : TL.spl [10] 0 [] text = ts at *
    have lts : (ts.map fun x => V.str (S x)).length = ts.length := by simp
    refine q_forE (K := K) (xs := ts.map fun x => V.str (S x)) (by rw [← hts]; exact el_split (ev_var rfl) (by rw [← lnlf]; exact ev_c) (by decide) (by decide) (by omega))
      (fun a i σ G => G a = some (.lst (ts.map fun x => V.str (S x))) ∧ ∃ (lrs : List LRec) (ls : List Ln) (u v z : Option V), σ = [some (.str (S text)), some (.ref ll), u, v, z, none, none] ∧ RI CL C H G ll lrs ls ∧ a ≠ ll ∧ ls.length = i ∧ linesM ts [] = linesM (ts.drop i) ls) ?_ (fun a i σ G h => sq_of h.1) ?_ ?_
    · intro a H3 ha e3 ha3
      refine ⟨ha3, [], [], none, none, none, rfl, ⟨⟨rfl, fun i hi => by simp at hi⟩, e3 _ _ hl2, fun i hi => by simp at hi, e12.trans e3, hll0⟩, (fun z => (by rw [z, hl2] at ha; cases ha)), rfl, rfl⟩
    · rintro a i x σ' G T0 hx ⟨hGa, lrs, ls, u, v, z, rfl, h, hal, hli, hlm⟩ hT0
      obtain ⟨told, htold, rfl⟩ : ∃ told, ts[i]? = some told ∧ x = .str (S told) := by
        rw [List.getElem?_map] at hx
        cases q : ts[i]? with
        | none => rw [q] at hx; cases hx
        | some y => rw [q] at hx; exact ⟨y, rfl, (Option.some.inj hx).symm⟩
      have hi : i < ts.length := (List.getElem?_eq_some_iff.mp htold).1
      have hdrop : ts.drop i = told :: ts.drop (i + 1) := by
        rw [List.drop_eq_getElem_cons hi]
        have := (List.getElem?_eq_some_iff.mp htold).2
        rw [this]
      have htl : told.length ≤ 9000 := hwl _ (List.mem_of_getElem? htold)
      rw [hdrop] at hlm
      have exT : Ex G (upd G T0 (.tup [.int (1 + (i : Int)), .str (S told)])) := ex_put hT0 (Ex.refl G)
      refine g_two upd_same ?_
      have hnum : (1 + (i : Int)) = ((ls.length + 1 : Nat) : Int) := by rw [hli]; push_cast; omega
      -- what a refusal comes to
      have bad : ∀ {J : Hp} {st : L2.St}, Ex G J → linesM ts [] = .error (ls.length + 1) → st[2]? = some (some (.int (1 + (i : Int)))) → tMkO CB (spErr K) [] (tCons (tVar 2) tNil) st J fun cls d H' => E cls d H' := fun {J st} eJ hm hst => by
        refine r_err B (ea_cons (ev_var hst) ea_nil) fun d H' e hd hd' => ?_
        rw [hm] at hrp
        rw [hnum] at hd'
        exact kE _ hrp d H' ((h.ex.trans eJ).trans e) (fresh_back (h.ex.trans eJ) hd) hd'
      refine q_callA (vs := [.str (S told)]) (ea_cons (ev_var rfl) ea_nil) fun H3 e3 => ?_
      have eG3 := exT.trans e3
      refine ⟨told, rfl, htl, fun hn H4 e4 => ?_, fun l hn r H4 e4 hl4 hfw hfa hfl hfm => ?_⟩
      · refine q_when (b := true) (et_is (et_or (a := true) (b := true) (et_in (ev_var rfl)) fun z => (by cases z)) rfl) (fun _ H5 e5 => ?_) (fun z => (by cases z))
        refine bad ((eG3.trans e4).trans e5) ?_ rfl
        rw [hlm]
        show (match readLine told with
          | none => Except.error (ls.length + 1)
          | some l => if canStand l ls then linesM (ts.drop (i + 1)) (ls ++ [l]) else .error (ls.length + 1)) = _
        rw [hn]
      · have eG4 := eG3.trans e4
        have hgl4 := eG4 _ _ h.gl
        have hlm2 : linesM ts [] = if canStand l ls then linesM (ts.drop (i + 1)) (ls ++ [l]) else .error (ls.length + 1) := by
          rw [hlm]
          show (match readLine told with
            | none => Except.error (ls.length + 1)
            | some l => if canStand l ls then linesM (ts.drop (i + 1)) (ls ++ [l]) else .error (ls.length + 1)) = _
          rw [hn]
        refine q_when (b := !canStand l ls) (et_is (et_or (a := false) (b := !canStand l ls) (et_ir (ev_var rfl)) fun _ => et_not (et_B (ev_call (ea_cons (ev_var rfl) (ea_cons (ev_var rfl) ea_nil)) fun H5 e5 Q' q E' => ⟨r, l, lrs, ls, ll, rfl, hl4.ex e5, h.lns.ex (eG4.trans e5), e5 _ _ hgl4, by omega, q⟩))) rfl) (fun hb H5 e5 => ?_) (fun hb H5 e5 => ?_)
        · refine bad (eG4.trans e5) ?_ rfl
          rw [hlm2]
          have : canStand l ls = false := by simpa using hb
          rw [this]
          rfl
        · have hcs : canStand l ls = true := by simpa using hb
          rw [hcs] at hlm2
          have eG5 := eG4.trans e5
          have lxr : (lrefs lrs).length = ls.length := by unfold lrefs; rw [List.length_map, h.lns.len]
          refine s_app (eG5 _ _ h.gl) (ev_var rfl) (ev_var rfl) (by rw [lxr]; omega) fun H6 e6 => ?_
          have eG6 := eG5.trans e6
          have sep : ∀ {c : Addr}, H3 c = none → c ≠ ll := fun hc z => by rw [z, eG3 _ _ h.gl] at hc; cases hc
          have apn : Apart ll r l := ⟨sep hfl, sep hfm, fun j hj => sep (hfw j hj)⟩
          have apo : ∀ j, j < (ls ++ [l]).length → Apart ll (LR (lrs ++ [r]) j) (lnth (ls ++ [l]) j) := fun j hj => by
            by_cases z : j < ls.length
            · rw [LR_app (h.lns.len ▸ z), lnth_app z]; exact h.ap j z
            · have : j = ls.length := by simp at hj; omega
              subst this
              rw [lnth_new, ← h.lns.len, LR_new]
              exact apn
          have lns6 : Lns CL C (lrs ++ [r]) (ls ++ [l]) H6 := (h.lns.ex eG6).add (hl4.ex (e5.trans e6))
          refine ⟨(upd_ne hal).trans (eG6 _ _ hGa), lrs ++ [r], ls ++ [l], _, _, _, rfl, ⟨⟨lns6.len, fun j hj => (lns6.at_ j hj).other (eG6 _ _ h.gl) (apo j hj)⟩, ?_, apo, ex_put h.f1 (h.ex.trans eG6), h.f1⟩, hal, by simp [hli], hlm2⟩
          rw [upd_same]
          unfold lrefs
          rw [List.map_append]
          rfl
    · rintro a σ' G ⟨hGa, lrs, ls, u, v, z, rfl, h, hal, hli, hlm⟩
      rw [lts] at hli hlm
      have hlm3 : linesM ts [] = .ok ls := by
        rw [hlm, List.drop_length]
        rfl
      rw [hlm3] at hrp
      dsimp only at hrp
      have hne : ls ≠ [] := fun z => by rw [z] at hli; simp at hli; omega
      have h1l : 1 ≤ ls.length := by omega
      have lxr : (lrefs lrs).length = ls.length := by unfold lrefs; rw [List.length_map, h.lns.len]
      rw [getLastD_lnth hne] at hrp
      have lastA : (lrefs lrs).getLast? = some (.ref (LR lrs (ls.length - 1)).a) := by
        unfold lrefs LR
        rw [List.getLast?_map, List.getLast?_eq_getElem?, h.lns.len, List.getD_eq_getElem?_getD]
        have : ls.length - 1 < lrs.length := by rw [h.lns.len]; omega
        simp [this]
      have lal := (h.lns.at_ (ls.length - 1) (by omega))
      have vlast : ∀ {J : Hp} {st : L2.St}, Ex G J → st[1]? = some (some (.ref ll)) → Ev (tOp (rIxL K) (tVar 1) (tUn (rU fun i => V.int (-i)) (tC (V.int 1)))) st J (.ref (LR lrs (ls.length - 1)).a) := fun eJ hst => ev_op (ev_var hst) (ev_un ev_c ru_neg) (rv_ixL (sq_of (eJ _ _ h.gl)) (atI_last lastA))
      refine q_when (b := !decide ((lnth ls (ls.length - 1)).name = [114, 117, 110])) (et_is (et_test (ev_op (ev_fld (vlast (Ex.refl G) rfl) lal.ins L.cl L.n1 rfl) ev_c (rv_ne rfl))) (by rw [lrun, S_eqc])) (fun hb H3 e3 => ?_) (fun hb H3 e3 => ?_)
      · have hb' : (lnth ls (ls.length - 1)).name ≠ [114, 117, 110] := by simpa using hb
        rw [if_pos hb'] at hrp
        refine r_err (v := .int ((ls.length + 1 : Nat) : Int)) B (ea_cons (ev_is (ev_op (ev_len (ev_var rfl) (sq_of (e3 _ _ h.gl))) ev_c rv_I0) (by rw [lxr]; push_cast; rfl)) ea_nil) fun d H' e hd hd' => ?_
        exact kE _ hrp d H' ((h.ex.trans e3).trans e) (fresh_back (h.ex.trans e3) hd) hd'
      · have hb' : ¬ (lnth ls (ls.length - 1)).name ≠ [114, 117, 110] := by simpa using hb
        rw [if_neg hb'] at hrp
        have hcut : cutV (lrefs lrs) none (some (-1)) = lrefs lrs.dropLast := by
          rw [cut_last (fun z => by rw [z] at lxr; simp at lxr; omega)]
          unfold lrefs
          rw [List.map_dropLast]
        have nmE : EvL (tLc (iList K (tSl (rSlL K) (tVar 1) tNoPart (tPart (tUn (rU fun i => V.int (-i)) (tC (V.int 1)))))) (gName 4) tYes (tFld K (tVar 4) "name") [4]) ([some (.str (S text)), some (.ref ll), u, v, z, none, none] : L2.St) H3 ((ls.dropLast.map (·.name)).map fun x => .str (S x)) :=
          el_lnamesN L (h.lns.ex e3).drop (by rw [← hcut]; exact el_sl (ev_var rfl) eo_none (eo_some (ev_un ev_c ru_neg)) (sq_of (e3 _ _ h.gl))) (by simp; omega) (fun _ => rfl) (fun _ => rfl)
        refine q_asgL nmE fun nm H4 hnm0 e4 hnm4 => ?_
        have eG4 := e3.trans e4
        generalize hNM : ls.dropLast.map (·.name) = NM at *
        refine q_forEv (K := K) (a := ll) (xs := lrefs lrs) (ev_var rfl) (sq_of (eG4 _ _ h.gl)) (fun i σ G' => (∃ u v z, σ = [some (.str (S text)), some (.ref ll), u, v, z, some (.ref nm), none]) ∧ Ex H4 G' ∧ firstUnknown NM 1 ls = firstUnknown NM (1 + i) (ls.drop i)) (fun H5 e5 => ⟨⟨_, _, _, rfl⟩, e5, rfl⟩) (fun i σ G' hp => sq_of ((eG4.trans hp.2.1) _ _ h.gl)) ?_ ?_
        · rintro i x σ' G' T0 hx ⟨⟨u', v', z', rfl⟩, eG', hfu⟩ hT0
          obtain ⟨hi, rfl⟩ := lrefs_at h.lns hx
          have hdrop : ls.drop i = lnth ls i :: ls.drop (i + 1) := by
            rw [List.drop_eq_getElem_cons hi]
            unfold lnth
            rw [List.getD_eq_getElem?_getD, List.getElem?_eq_getElem hi]
            rfl
          rw [hdrop] at hfu
          refine g_two upd_same ?_
          have exT := ex_put (o := .tup [.int (1 + (i : Int)), .ref (LR lrs i).a]) hT0 (Ex.refl G')
          have eGT := (eG4.trans eG').trans exT
          have la := (h.lns.at_ i hi).ex eGT
          have lN := la.nds
          have lxn : (refs (LR lrs i).rs (List.range (lnth ls i).nodes.length)).length = (lnth ls i).nodes.length := by unfold refs; rw [List.length_map, List.length_range]
          have at_j : ∀ {j : Nat} {x : V}, (refs (LR lrs i).rs (List.range (lnth ls i).nodes.length))[j]? = some x → j < (lnth ls i).nodes.length ∧ x = .ref (R (LR lrs i).rs j).a := fun {j x} hv => by
            have hj : j < (lnth ls i).nodes.length := by
              have := (List.getElem?_eq_some_iff.mp hv).1
              rw [lxn] at this
              exact this
            unfold refs at hv
            rw [List.getElem?_map, List.getElem?_range hj] at hv
            exact ⟨hj, (Option.some.inj hv).symm⟩
          have allE : EvL (tLc (iList K (tFld K (tVar 4) "nodes")) (gName 6) (tTest (tOp rEq (tFld K (tVar 6) "kind") (tC (.str "part")))) (tOp (rIn K false) (tFld K (tVar 6) "sign") (tVar 5)) [6]) ([some (.str (S text)), some (.ref ll), some (.int (1 + (i : Int))), v', some (.ref (LR lrs i).a), some (.ref nm), none] : L2.St) (upd G' T0 (.tup [.int (1 + (i : Int)), .ref (LR lrs i).a]))
              (((((lnth ls i).nodes.filter fun n => decide (n.kind = [112, 97, 114, 116])).map fun n => decide (n.sign ∈ NM))).map V.bl) := by
            have g := el_lcL (K := K) (te := tOp (rIn K false) (tFld K (tVar 6) "sign") (tVar 5)) (t := tTest (tOp rEq (tFld K (tVar 6) "kind") (tC (.str "part")))) (j := 6) (vs := [6]) (σ := ([some (.str (S text)), some (.ref ll), some (.int (1 + (i : Int))), v', some (.ref (LR lrs i).a), some (.ref nm), none] : L2.St)) (H := upd G' T0 (.tup [.int (1 + (i : Int)), .ref (LR lrs i).a])) (tl := tFld K (tVar 4) "nodes")
              (fun j => decide ((nth (lnth ls i).nodes j).kind = [112, 97, 114, 116])) (fun j => .bl (decide ((nth (lnth ls i).nodes j).sign ∈ NM))) (ev_fld (ev_var rfl) la.ins L.cl L.n3 rfl) (sq_of la.nl) (by rw [lxn]; have := la.bd; omega) (fun _ => rfl) (fun j x H5 e5 hx => by
                obtain ⟨hj, rfl⟩ := at_j hx
                exact et_is (et_test (ev_op (ev_fld (ev_var rfl) (e5 _ _ (lN.at_ j hj).ins) N.cl N.n3 rfl) ev_c (rv_eq rfl))) (by rw [lpart]; exact S_eqc)) fun j x H5 e5 hx _ => by
                obtain ⟨hj, rfl⟩ := at_j hx
                exact ev_is (ev_op (ev_fld (ev_var rfl) (e5 _ _ (lN.at_ j hj).ins) N.cl N.n2 rfl) (ev_var rfl) (rv_isL (sq_of (((eG'.trans exT).trans e5) _ _ hnm4)) rfl flat_map)) (by rw [inV_map])
            rw [lxn, known_given] at g
            exact g
          refine s_when (b := !known NM (lnth ls i)) (et_not (et_is (et_B (ev_all allE)) known_all)) (fun hb5 H5 e5 => ?_) (fun hb5 H5 e5 => ?_)
          · have hk : known NM (lnth ls i) = false := by simpa using hb5
            have hfu2 : firstUnknown NM 1 ls = some (1 + i) := by
              rw [hfu]
              unfold firstUnknown
              rw [hk]
              rfl
            rw [hfu2] at hrp
            refine r_err (v := .int ((1 + i : Nat) : Int)) B (ea_cons (ev_is (ev_var rfl) (by push_cast; rfl)) ea_nil) fun d H' e hd hd' => ?_
            exact kE _ hrp d H' (((h.ex.trans eGT).trans e5).trans e) (fresh_back ((h.ex.trans eGT).trans e5) hd) hd'
          · have hk : known NM (lnth ls i) = true := by simpa using hb5
            refine ⟨⟨_, _, _, rfl⟩, (eG'.trans exT).trans e5, ?_⟩
            rw [hfu]
            conv => lhs; unfold firstUnknown
            rw [hk]
            rfl
        · rintro σ' G' ⟨⟨u', v', z', rfl⟩, eG', hfu⟩
          rw [lxr, List.drop_length] at hfu
          have hfu2 : firstUnknown NM 1 ls = none := hfu
          rw [hfu2] at hrp
          refine s_ret (ev_var rfl) fun H6 e6 => ?_
          have eA := (eG4.trans eG').trans e6
          exact kQ ls hrp lrs ll H6 (h.ex.trans eA) (h.lns.ex eA) (eA _ _ h.gl) h.f1 hne (by omega)
end
end K5
set_option Elab.async false
set_option linter.all false
set_option maxRecDepth 100000
set_option maxHeartbeats 4000000
namespace K5
open PySem PySem.Spec PyProof.Rows L2 Evl Xl SX Mi
structure ProgC (K : PySem.W.Frag) (mg : Str → Option Value) (C : Addr) : Prop where
  cl : Cls K C
  mgC : mg "Program" = some (.ref C)
  n1 : NoAttr K C "_text"
  n2 : NoAttr K C "_lines"
  n3 : NoAttr K C "_parts"
  n4 : NoAttr K C "nodes"
  n5 : NoAttr K C "_places"
  n6 : NoAttr K C "_bindings"
theorem Nds.keep {CP dx C p : Addr} {nm : V} {rs : List Rec} {ns : List Nd} {H H' : Hp} (hp : H p = some (.ins CP dx [])) (k : Keep (fun c => c = p) H H') (h : Nds C nm rs ns H) : Nds C nm rs ns H' := by
  have ne : ∀ {c : Addr} {o : HO}, H c = some o → o ≠ .ins CP dx [] → c ≠ p := fun hc ho z => by rw [z, hp] at hc; exact ho (Option.some.inj hc).symm
  exact ⟨h.len, fun i hi => ⟨k _ _ (ne (h.at_ i hi).ins fun z => by cases z) (h.at_ i hi).ins, k _ _ (ne (h.at_ i hi).tup fun z => by cases z) (h.at_ i hi).tup, k _ _ (ne (h.at_ i hi).win fun z => by cases z) (h.at_ i hi).win⟩, h.ia, h.iw⟩
theorem Lns.keep {CP dx CL C p : Addr} {lrs : List LRec} {ls : List Ln} {H H' : Hp} (hp : H p = some (.ins CP dx [])) (k : Keep (fun c => c = p) H H') (h : Lns CL C lrs ls H) : Lns CL C lrs ls H' := by
  have ne : ∀ {c : Addr} {o : HO}, H c = some o → o ≠ .ins CP dx [] → c ≠ p := fun hc ho z => by rw [z, hp] at hc; exact ho (Option.some.inj hc).symm
  refine ⟨h.len, fun i hi => ?_⟩
  have l := h.at_ i hi
  exact ⟨k _ _ (ne l.ins fun z => by cases z) l.ins, l.nds.keep hp k, k _ _ (ne l.nl fun z => by cases z) l.nl, k _ _ (ne l.nm fun z => by cases z) l.nm, l.bd⟩
/-- a walk, turn by turn -/
theorem comp_walk {J : It} {n : Nat} {Gd : Hp → Prop} {Y : Nat → Hp → V → Hp → Prop} {H0 : Hp} {Qd : Hp → Prop} {body : V → Hp → (Hp → Prop) → Prop} (wk : Walk J n Gd Y) (Pv : Nat → Hp → Prop) (h0 : Pv 0 H0) (hg : ∀ i H, i ≤ n → Pv i H → Gd H)
    (ht : ∀ i H x H', i < n → Pv i H → Y i H x H' → body x H' (Pv (i + 1))) (hd : ∀ H, Pv n H → Qd H) :
    ∃ W : Nat → Nat → Hp → Prop, (∃ m, W 0 m H0) ∧ ∀ i m H, W i m H → J.stop i H ∧ Qd H ∨ J.go i H ∧ ∃ Nx : Hp → Prop, (∀ H', Nx H' → ∃ m', m' < m ∧ W (i + 1) m' H') ∧ ∀ x H', J.yld i H x H' → body x H' Nx := by
  refine ⟨fun i m H => i ≤ n ∧ m = n - i ∧ Pv i H, ⟨n, Nat.zero_le _, rfl, h0⟩, fun i m H ⟨hi, hm, hp⟩ => ?_⟩
  by_cases z : i < n
  · exact .inr ⟨wk.goes i H z (hg i H hi hp), Pv (i + 1), fun H' p' => ⟨n - (i + 1), by omega, by omega, rfl, p'⟩, fun x H' hy => ht i H x H' z hp (wk.yields i H x H' z (hg i H hi hp) hy)⟩
  · have : i = n := by omega
    subst this
    exact .inl ⟨wk.stops H (hg i H hi hp), hd H hp⟩
/-- an expression that has some value of which Pd tells -/
def EvP (te : TE) (σ : L2.St) (H : Hp) (Pd : V → Hp → Prop) : Prop := ∀ Q : VK, (∀ v H1, Ex H H1 → Pd v H1 → Q v H1) → te σ H Q
theorem q_fldP {K : PySem.W.Frag} {ta te : TE} {σ : L2.St} {H : Hp} {f : Str} {a C dx : Addr} {fs : List (Str × V)} {Pd : V → Hp → Prop} {D : Ends} {tz : TS} (ha : H a = some (.ins C dx fs)) (h0 : Ev ta σ H (.ref a)) (h : EvP te σ H Pd) (hc : Cls K C) (hn : NoAttr K C f) (hl : fs.length < 1000) (hP : ∀ v H1 H2, Ex H H1 → Ex H1 H2 → Pd v H1 → Pd v H2)
    (k : ∀ v H1, Ex H H1 → Pd v H1 → tz D σ (upd H1 a (.ins C dx (putF f v fs)))) : tSeq (sFld K ta te f) tz D σ H :=
  h _ fun v H1 e1 hv => h0 H1 e1 _ fun H2 e2 => ⟨a, C, dx, fs, rfl, e2 _ _ (e1 _ _ ha), hc, hn, hl, k v H2 (e1.trans e2) (hP v H1 H2 e1 e2 hv)⟩
theorem s_fldP {K : PySem.W.Frag} {ta te : TE} {σ : L2.St} {H : Hp} {f : Str} {a C dx : Addr} {fs : List (Str × V)} {Pd : V → Hp → Prop} {D : Ends} (ha : H a = some (.ins C dx fs)) (h0 : Ev ta σ H (.ref a)) (h : EvP te σ H Pd) (hc : Cls K C) (hn : NoAttr K C f) (hl : fs.length < 1000)
    (k : ∀ v H1, Ex H H1 → D.nx σ (upd H1 a (.ins C dx (putF f v fs)))) : sFld K ta te f D σ H :=
  h _ fun v H1 e1 hv => h0 H1 e1 _ fun H2 e2 => ⟨a, C, dx, fs, rfl, e2 _ _ (e1 _ _ ha), hc, hn, hl, k v H2 (e1.trans e2)⟩
theorem mem_putK' {κ : Type} [DecidableEq κ] {kvs : List (κ × V)} {k : κ} {v : V} {kv : κ × V} (h : kv ∈ putK kvs k v) : kv ∈ kvs ∨ kv.2 = v := by
  unfold putK at h
  split at h
  · obtain ⟨q, hq, e⟩ := List.mem_map.mp h
    split at e
    · right; rw [← e]
    · left; rw [← e]; exact hq
  · rcases List.mem_append.mp h with h | h
    · exact .inl h
    · right
      rw [List.mem_singleton.mp h]
theorem evP_tup {K : PySem.W.Frag} {te : TE} {σ : L2.St} {H : Hp} (h : EvP te σ H fun v H1 => ∃ p xs, v = .ref p ∧ H1 p = some (.lst xs)) : EvP (tThen te (kTup K)) σ H fun _ _ => True :=
  fun Q q => h _ fun v H1 e1 ⟨p, xs, hv, hp⟩ => .inl ⟨p, xs, hv, sq_of hp, fun t ht => q _ _ (e1.trans (ex_put ht (Ex.refl H1))) trivial⟩
theorem evP_L {te : TE} {σ : L2.St} {H : Hp} {xs : List V} (h : EvL te σ H xs) : EvP te σ H fun v H1 => ∃ p xs, v = .ref p ∧ H1 p = some (.lst xs) :=
  fun Q q => h H (Ex.refl H) _ fun p H1 _ e1 hp => q _ _ e1 ⟨p, xs, rfl, hp⟩
theorem evP_lines {K : PySem.W.Frag} {mg : Str → Option Value} {CL C : Addr} {lrs : List LRec} {ls : List Ln} {H : Hp} {σ : L2.St} {ll : Addr} {tl : TE} {j : Nat} {vs : List Nat} (T : LineC K mg CL) (h : Lns CL C lrs ls H) (hl : H ll = some (.lst (lrefs lrs))) (ht : Ev tl σ H (.ref ll)) (hn : ls.length ≤ 1000)
    (hw : ∀ y, wipe ((wipe σ vs).set j (some y)) vs = wipe σ vs) (hj : ∀ y, ((wipe σ vs).set j (some y))[j]? = some (some y)) : EvP (tDc (iList K tl) (gName j) tYes (tFld K (tVar j) "name") (tFld K (tVar j) "told") vs) σ H fun _ _ => True := by
  have lx : (lrefs lrs).length = ls.length := by unfold lrefs; rw [List.length_map, h.len]
  refine fun Q q => ht H (Ex.refl H) _ fun H1 e1 => ⟨ll, rfl, ⟨_, sq_of (e1 _ _ hl)⟩, fun D hD => ?_⟩
  refine comp_walk (body := fun x H' Nx => gName j x (wipe σ vs) H' fun σ2 H2 => wipe σ2 vs = wipe σ vs ∧ tYes σ2 H2 fun b H3 => if b = true then tFld K (tVar j) "name" σ2 H3 fun y H4 => tFld K (tVar j) "told" σ2 H4 fun z H5 => ∃ kvs k, y = kV k ∧ H5 D = some (.dK kvs) ∧ kvs.length < sizeLine ∧ Nx (upd H5 D (.dK (putK kvs k z))) else Nx H3)
    (walk_list (K := K) (a := ll) (xs := lrefs lrs)) (fun i G => Ex H1 G ∧ ∃ kvs, G D = some (.dK kvs) ∧ kvs.length ≤ i) ⟨ex_put hD (Ex.refl H1), [], upd_same, Nat.le_refl _⟩ (fun i G _ hp => sq_of (hp.1 _ _ (e1 _ _ hl))) (fun i G x G' hi hp hy => ?_) (fun G hp => q _ _ (e1.trans hp.1) trivial)
  obtain ⟨rfl, hx⟩ := hy
  obtain ⟨eG, kvs, hk, hkl⟩ := hp
  obtain ⟨hi2, rfl⟩ := lrefs_at h hx
  have la := (h.at_ i hi2).ex (e1.trans eG)
  refine ⟨hw _, ?_⟩
  refine ⟨_, hj _, _, CL, _, _, _, rfl, la.ins, T.cl, T.n1, rfl, ?_⟩
  refine ⟨_, hj _, _, CL, _, _, _, rfl, la.ins, T.cl, T.n2, rfl, kvs, .inr (S (lnth ls i).name), rfl, hk, by rw [sizeLine_eq]; rw [lx] at hi; omega, ?_⟩
  exact ⟨ex_put hD eG, _, upd_same, Nat.le_trans (length_putK _ _ _) (by omega)⟩
theorem q_callS {sp : Sp} {vs : List V} {E : L2.St → XK} {ta : TA} {σ : L2.St} {H : Hp} {D : Ends} {tz : TS} {i : Nat} (h : EvA ta σ H vs) (k : ∀ H1, Ex H H1 → sp vs H1 (fun v H2 => tz D (σ.set i (some v)) H2) (E σ)) : tSeq (tAsg (tCallS sp E ta) (gName i)) tz D σ H :=
  h H (Ex.refl H) _ fun H1 e1 => k H1 e1
/-- a node of one of the lines -/
def IsNd (lrs : List LRec) (ls : List Ln) (v : V) : Prop := ∃ i j, i < ls.length ∧ j < (lnth ls i).nodes.length ∧ v = .ref (R (LR lrs i).rs j).a
theorem refs_at {rs : List Rec} {n j : Nat} {x : V} (hv : (refs rs (List.range n))[j]? = some x) : j < n ∧ x = .ref (R rs j).a := by
  have hj : j < n := by
    have := (List.getElem?_eq_some_iff.mp hv).1
    unfold refs at this
    rw [List.length_map, List.length_range] at this
    exact this
  unfold refs at hv
  rw [List.getElem?_map, List.getElem?_range hj] at hv
  exact ⟨hj, (Option.some.inj hv).symm⟩
theorem evP_nodes {K : PySem.W.Frag} {mg : Str → Option Value} {CL C : Addr} {lrs : List LRec} {ls : List Ln} {H : Hp} {ll : Addr} {a0 a1 a3 a4 a5 : Option V} (T : LineC K mg CL) (N : NodeC K mg C) (h : Lns CL C lrs ls H) (hl : H ll = some (.lst (lrefs lrs))) (hn : ls.length ≤ 1000) :
    EvP (Xd.tDc2 (iList K (tVar 2)) (gName 3) (iList K (tFld K (tVar 3) "nodes")) (gName 4) (tFld K (tVar 4) "place") (tVar 4) [3, 4] [4]) ([a0, a1, some (.ref ll), a3, a4, a5] : L2.St) H fun v H1 => ∃ D kvs, v = .ref D ∧ H1 D = some (.dT kvs) ∧ kvs.length ≤ 1000000 ∧ ∀ kv ∈ kvs, IsNd lrs ls kv.2 := by
  have lx : (lrefs lrs).length = ls.length := by unfold lrefs; rw [List.length_map, h.len]
  refine fun Q q => ⟨_, rfl, ll, rfl, ⟨_, sq_of hl⟩, fun D hD => ?_⟩
  refine comp_walk (body := fun x H' Nx => gName 3 x (wipe ([a0, a1, some (.ref ll), a3, a4, a5] : L2.St) [3, 4]) H' fun σ2 H2 => wipe σ2 [3, 4] = wipe ([a0, a1, some (.ref ll), a3, a4, a5] : L2.St) [3, 4] ∧
    iList K (tFld K (tVar 3) "nodes") σ2 H2 fun J1 H3 => ∃ W1 : Nat → Nat → Hp → Prop, (∃ m, W1 0 m H3) ∧ ∀ j k H, W1 j k H → (J1.stop j H ∧ Nx H) ∨ (J1.go j H ∧ ∃ Nx1 : Hp → Prop, (∀ H', Nx1 H' → ∃ k', k' < k ∧ W1 (j + 1) k' H') ∧
      ∀ y H', J1.yld j H y H' → gName 4 y (wipe σ2 [4]) H' fun σ3 H4 => wipe σ3 [4] = wipe σ2 [4] ∧ tFld K (tVar 4) "place" σ3 H4 fun ky H5 => tVar 4 σ3 H5 fun z H6 => ∃ (b : Addr) (key : List Key) (kvs : List (List Key × V)), ky = .ref b ∧ H6 b = some (.tup (key.map kV)) ∧
        H6 D = some (.dT kvs) ∧ kvs.length < sizeLine ∧ Nx1 (upd H6 D (.dT (putK kvs key z)))))
    (walk_list (K := K) (a := ll) (xs := lrefs lrs)) (fun i G => Ex H G ∧ ∃ kvs, G D = some (.dT kvs) ∧ kvs.length ≤ i * 300 ∧ ∀ kv ∈ kvs, IsNd lrs ls kv.2) ⟨ex_put hD (Ex.refl H), [], upd_same, Nat.zero_le _, fun kv hk => by cases hk⟩ (fun i G _ hp => sq_of (hp.1 _ _ hl)) (fun i G x G' hi hp hy => ?_)
    (fun G hp => by obtain ⟨e, kvs, h1, h3, h2⟩ := hp; rw [lx] at h3; exact q _ _ e ⟨D, kvs, rfl, h1, by omega, h2⟩)
  obtain ⟨rfl, hx⟩ := hy
  obtain ⟨eG, kvs, hk, hkl, hkn⟩ := hp
  obtain ⟨hi2, rfl⟩ := lrefs_at h hx
  have la := (h.at_ i hi2).ex eG
  refine ⟨rfl, _, rfl, _, CL, _, _, _, rfl, la.ins, T.cl, T.n3, rfl, _, rfl, ⟨_, sq_of la.nl⟩, ?_⟩
  have lxn : (refs (LR lrs i).rs (List.range (lnth ls i).nodes.length)).length = (lnth ls i).nodes.length := by unfold refs; rw [List.length_map, List.length_range]
  refine comp_walk (body := fun y H' Nx1 => gName 4 y (wipe (([a0, a1, some (.ref ll), some (.ref (LR lrs i).a), none, a5] : L2.St)) [4]) H' fun σ3 H4 => wipe σ3 [4] = wipe (([a0, a1, some (.ref ll), some (.ref (LR lrs i).a), none, a5] : L2.St)) [4] ∧ tFld K (tVar 4) "place" σ3 H4 fun ky H5 => tVar 4 σ3 H5 fun z H6 => ∃ (b : Addr) (key : List Key) (kvs : List (List Key × V)), ky = .ref b ∧ H6 b = some (.tup (key.map kV)) ∧
        H6 D = some (.dT kvs) ∧ kvs.length < sizeLine ∧ Nx1 (upd H6 D (.dT (putK kvs key z))))
    (walk_list (K := K) (a := (LR lrs i).nl) (xs := refs (LR lrs i).rs (List.range (lnth ls i).nodes.length))) (fun j G2 => Ex H G2 ∧ ∃ kvs, G2 D = some (.dT kvs) ∧ kvs.length ≤ i * 300 + j ∧ ∀ kv ∈ kvs, IsNd lrs ls kv.2) ⟨eG, kvs, hk, hkl, hkn⟩ (fun j G2 _ hp => sq_of ((h.at_ i hi2).ex hp.1).nl) (fun j G2 y G2' hj hp hy => ?_)
    (fun G2 hp => by
      obtain ⟨e, kvs, h1, h2, h3⟩ := hp
      rw [lxn] at h2
      have := la.bd
      exact ⟨e, kvs, h1, by omega, h3⟩)
  obtain ⟨rfl, hy⟩ := hy
  obtain ⟨eG2, kvs2, hk2, hkl2, hkn2⟩ := hp
  obtain ⟨hj2, rfl⟩ := refs_at hy
  have ln := ((h.at_ i hi2).ex eG2).nds.at_ j hj2
  rw [lxn] at hj
  have lb := la.bd
  refine ⟨rfl, _, rfl, _, C, _, _, _, rfl, ln.ins, N.cl, N.n1, rfl, _, rfl, _, [.inr (S (lnth ls i).name), .inl ((nth (lnth ls i).nodes j).at_ : Int)], kvs2, rfl, ln.tup, hk2, by rw [sizeLine_eq]; rw [lx] at hi; omega, ex_put hD eG2, _, upd_same, Nat.le_trans (length_putK _ _ _) (by omega), fun kv hkv => ?_⟩
  rcases mem_putK' hkv with z | z
  · exact hkn2 kv z
  · rw [z]; exact ⟨i, j, hi2, hj2, rfl⟩
theorem ev_dget {td ty : TE} {σ : L2.St} {H : Hp} {a : Addr} {y v : V} (h : Ev td σ H (.ref a)) (hy : Ev ty σ H y) (hd : ∀ H1, Ex H H1 → DGet H1 a y (some v)) : Ev (tDGet td ty) σ H v :=
  fun H1 e Q q => h H1 e _ fun H2 e2 => hy H2 (e.trans e2) _ fun H3 e3 => ⟨a, v, rfl, hd H3 ((e.trans e2).trans e3), q H3 (e2.trans e3)⟩
theorem valV_at {kvs : List (List Key × V)} {i : Nat} {k : List Key} {v : V} (h : kvs[i]? = some (k, v)) : ∃ v', valV kvs k = some v' ∧ ∃ kv ∈ kvs, kv.2 = v' := by
  have hm : (k, v) ∈ kvs := List.mem_of_getElem? h
  unfold valV
  cases hf : kvs.find? (fun kv => decide (kv.1 = k)) with
  | none =>
    have := List.find?_eq_none.mp hf _ hm
    simp at this
  | some kv => exact ⟨kv.2, rfl, kv, List.mem_of_find?_eq_some hf, rfl⟩
theorem evP_binds {K : PySem.W.Frag} {mg : Str → Option Value} {CP dx CL C p D pw : Addr} {lrs : List LRec} {ls : List Ln} {H : Hp} {fs : List (Str × V)} {kvs : List (List Key × V)} {ws : List Wd} {a1 a2 a3 a4 a5 : Option V} (G : ProgC K mg CP) (N : NodeC K mg C) (h : Lns CL C lrs ls H) (hp : H p = some (.ins CP dx fs)) (hf : fs.lookup ("nodes" : Str) = some (.ref D)) (hD : H D = some (.dT kvs)) (hk : ∀ kv ∈ kvs, IsNd lrs ls kv.2)
    (hn : kvs.length ≤ 1000000) (hw : ∀ H, SqT K H pw (ws.map fun x => .str (S x))) :
    EvP (tLockE (tLc (iKeys (tFld K (tVar 0) "nodes")) (gName 5) (tTest (tOp (rIn K false) (tFld K (tDGet (tFld K (tVar 0) "nodes") (tVar 5)) "kind") (tC (.ref pw)))) (tVar 5) [5])) ([some (.ref p), a1, a2, a3, a4, a5] : L2.St) H fun v H1 => ∃ q xs, v = .ref q ∧ H1 q = some (.lst xs) := by
  refine fun Q q => ⟨D, .dT kvs, hD, trivial, fun od => ?_⟩
  have hpD : p ≠ D := fun z => by rw [z, hD] at hp; cases hp
  have hp1 : (upd H D (.frz od (.dT kvs))) p = some (.ins CP dx fs) := (upd_ne hpD).trans hp
  have hD1 : (upd H D (.frz od (.dT kvs))) D = some (.frz od (.dT kvs)) := upd_same
  refine ⟨_, rfl, p, CP, dx, fs, _, rfl, hp1, G.cl, G.n4, hf, D, od, rfl, .inr ⟨kvs, hD1, fun DL hDL => ?_⟩⟩
  have hne : DL ≠ D := fun z => by rw [z, hD1] at hDL; cases hDL
  refine comp_walk (body := fun x H' Nx => gName 5 x (wipe ([some (.ref p), a1, a2, a3, a4, a5] : L2.St) [5]) H' fun σ2 H2 => wipe σ2 [5] = wipe ([some (.ref p), a1, a2, a3, a4, a5] : L2.St) [5] ∧ (tTest (tOp (rIn K false) (tFld K (tDGet (tFld K (tVar 0) "nodes") (tVar 5)) "kind") (tC (.ref pw)))) σ2 H2 fun b H3 => if b = true then tVar 5 σ2 H3 fun y H4 => ∃ acc, H4 DL = some (.lst acc) ∧ acc.length < sizeLine ∧ Nx (upd H4 DL (.lst (acc ++ [y]))) else Nx H3)
    (walk_keysT (d := D) (o := od) (kvs := kvs)) (fun i G' => Ex (upd H D (.frz od (.dT kvs))) G' ∧ ∃ acc, G' DL = some (.lst acc) ∧ acc.length ≤ i) ⟨ex_put hDL (Ex.refl _), [], upd_same, Nat.le_refl _⟩ (fun i G' _ hp => hp.1 _ _ hD1) (fun i G' x G2 hi hpv hy => ?_) (fun G' hpv => ?_)
  · obtain ⟨rfl, k, v, t, hkv, rfl, ht⟩ := hy
    obtain ⟨eG, acc, ha, hal⟩ := hpv
    obtain ⟨v', hv', kv, hkm, hkv'⟩ := valV_at hkv
    obtain ⟨i2, j2, hi2, hj2, hvr⟩ := hk kv hkm
    rw [hkv'] at hvr
    subst hvr
    have ln := (h.at_ i2 hi2).nds.at_ j2 hj2
    have lnD : (R (LR lrs i2).rs j2).a ≠ D := fun z => by have := ln.ins; rw [z, hD] at this; cases this
    have lni := eG _ _ ((upd_ne lnD).trans ln.ins)
    refine ⟨rfl, ?_⟩
    have tt : EvT (tTest (tOp (rIn K false) (tFld K (tDGet (tFld K (tVar 0) "nodes") (tVar 5)) "kind") (tC (.ref pw)))) ([some (.ref p), a1, a2, a3, a4, some (.ref t)] : L2.St) G2 (decide ((nth (lnth ls i2).nodes j2).kind ∈ ws)) :=
      et_is (et_test (ev_op (ev_fld (ev_dget (a := D) (y := .ref t) (ev_fld (ev_var rfl) (eG _ _ hp1) G.cl G.n4 hf) (ev_var rfl) fun H1 e1 => .inr ⟨kvs, k, t, .inr ⟨od, e1 _ _ (eG _ _ hD1)⟩, rfl, e1 _ _ ht, hv'.symm⟩) lni N.cl N.n3 rfl) ev_c (rv_inT (hw G2) rfl flat_map))) inV_map
    refine tt G2 (Ex.refl G2) _ fun H3 e3 => ?_
    cases hb : decide ((nth (lnth ls i2).nodes j2).kind ∈ ws) with
    | true =>
      rw [if_pos rfl]
      exact ⟨_, rfl, acc, e3 _ _ ha, by rw [sizeLine_eq]; omega, ex_put hDL (eG.trans e3), _, upd_same, by rw [List.length_append]; simp; exact hal⟩
    | false =>
      rw [if_neg (by simp)]
      exact ⟨eG.trans e3, acc, e3 _ _ ha, by omega⟩
  · obtain ⟨eG, acc, ha, hal⟩ := hpv
    refine ⟨eG _ _ hD1, q _ _ (fun c o hc => ?_) ⟨DL, acc, rfl, (upd_ne hne).trans ha⟩⟩
    by_cases z : c = D
    · rw [z, upd_same]; rw [z, hD] at hc; exact hc
    · rw [upd_ne z]
      exact eG _ _ ((upd_ne z).trans hc)
section
variable {P : Program} {w : World} {K : PySem.W.Frag} {mg : Str → Option Value} {base : Heap} {f : Addr} {fd : FuncData}
def spPr (K : PySem.W.Frag) (CB CP : Addr) : Sp := fun vs H Q E => ∃ (p dx : Addr) (x : V), vs = [.ref p, x] ∧ H p = some (.ins CP dx []) ∧
  ((∃ T, TyB K H x T ∧ T ≠ "str" ∧ ∀ d H', Ex H H' → H d = none → H' d = some (.xd [("value", .int 0)]) → E (.ref CB) (some d) H') ∨
  ∃ text : Wd, x = .str (S text) ∧ text.length ≤ 900 ∧ (∀ e, readProg text = .error e → ∀ d H', Ex H H' → H d = none → H' d = some (.xd [("value", .int (e : Nat))]) → E (.ref CB) (some d) H') ∧
    ∀ ls, readProg text = .ok ls → ∀ H', Keep (fun c => c = p) H H' → Q .non H')
abbrev nG : List Str := ["self", "text", "lines", "line", "node", "place"]
abbrev sProg : Stmt := inClass (top 35) 0
theorem scG : FnScope nG ["self", "text"] (C8.fnScope sProg) := C8.fnScope_by (by decide +kernel)
theorem ok_program {CB CP CL C fR : Addr} {fdR : FuncData} (F : C8.Fun K "__init__" "Program.__init__" sProg f fd) (T : Txt2 K w mg) (G : ProgC K mg CP) (N : NodeC K mg C) (L : LineC K mg CL)
    (FR : FnOk P w K mg base (L2.CX P w) 6 fR fdR ["text"] (spRP K CB CL C)) (mR : mg "read_program" = some (.ref fR)) (kR : PySem.W.keepIn K (.ref fR) = true) (bR : Binds K fdR ["text"] []) : FnOk P w K mg base (L2.CX P w) 7 f fd ["self", "text"] (spPr K CB CP) := by
  obtain ⟨pw, mw, hw⟩ := T.bwords
  refine fnX F scG (fun vs H Q E h => by obtain ⟨p, dx, x, rfl, _⟩ := h; rfl) (fun cdv A outer s H vs Q E hr h => ?_)
  obtain ⟨p, dx, x, rfl, hp, h⟩ := h
  refine ⟨_, pss_cons (ps_set (i := 2) scG.nd rfl (Or.inl rfl) (pe_callS FR hr (by rfl) mR kR bR (fun σ => passAt (takes_of rfl rfl rfl rfl) σ) (pa_cons (pv 1) pa_nil)))
    (pss_cons (ps_fld (pv 0) (pv 1) rfl)
    (pss_cons (ps_fld (pv 0) (pe_dc (own := [("line", 3)]) (g := gName 3) (tt := tYes) (tk := tFld K (tVar 3) "name") (tv := tFld K (tVar 3) "told") rfl scG.nd (pi_list (pv 2)) (blkOk_by (N := nG) (sc := C8.fnScope sProg) (by decide +kernel))
        (fun _ _ _ _ _ => pg_name (i := 3) scG.nd rfl (Or.inl rfl)) (fun _ _ _ _ _ => pts_nil) (fun _ _ _ _ _ => pe_fld (pv 3) (by rfl)) (fun _ _ _ _ _ => pe_fld (pv 3) (by rfl))) rfl)
    (pss_cons (ps_fld (pv 0) (pe_tupleOf (by rfl) T.tuple_ (pe_lc (own := [("line", 3)]) (g := gName 3) (tt := tYes) (te := tFld K (tVar 3) "name") rfl scG.nd (pi_list (pe_slice sl_list (pv 2) po_none (po_some (pe_un un_neg pe_int)))) (blkOk_by (N := nG) (sc := C8.fnScope sProg) (by decide +kernel))
        (fun _ _ _ _ _ => pg_name (i := 3) scG.nd rfl (Or.inl rfl)) (fun _ _ _ _ _ => pts_nil) (fun _ _ _ _ _ => pe_fld (pv 3) (by rfl)))) rfl)
    (pss_cons (ps_fld (pv 0) (Xd.pe_dc2 (own := [("line", 3), ("node", 4)]) (vs1 := [4]) (g := gName 3) (g1 := gName 4) (wi1 := iList K (tFld K (tVar 3) "nodes")) (tk := tFld K (tVar 4) "place") (tv := tVar 4) rfl (Nat.lt_of_le_of_lt (Nat.le_trans (Nat.le_add_right _ _) (Nat.le_add_right _ _)) hr.un) scG.nd (pi_list (pv 2)) (blkOk_by (N := nG) (sc := C8.fnScope sProg) (by decide +kernel)) (by decide)
        (fun _ _ _ _ _ => pg_name (i := 3) scG.nd rfl (Or.inl rfl)) (fun _ _ _ _ _ => pi_list (pe_fld (pv 3) (by rfl))) (fun _ _ _ _ _ => pg_name (i := 4) scG.nd rfl (Or.inl rfl)) (fun _ _ _ _ _ => pe_fld (pv 4) (by rfl)) (fun _ _ _ _ _ => pv 4)) rfl)
    (pss_cons (ps_fld (pv 0) (pe_tupleOf (by rfl) T.tuple_ (pe_callTy (call_list_dT rfl) (by rfl) T.list_ (by decide +kernel) (pa_cons (pe_fld (pv 0) rfl) pa_nil))) rfl)
    (pss_one (ps_fld (pv 0) (pe_tupleOf (by rfl) T.tuple_ (pe_lock (pe_lc (own := [("place", 5)]) (g := gName 5) (tt := tTest (tOp (rIn K false) (tFld K (tDGet (tFld K (tVar 0) "nodes") (tVar 5)) "kind") (tC (.ref pw)))) (te := tVar 5) rfl scG.nd (pi_keys (pe_fld (pv 0) rfl)) (blkOk_by (N := nG) (sc := C8.fnScope sProg) (by decide +kernel))
        (fun _ _ _ _ _ => pg_name (i := 5) scG.nd rfl (Or.inl rfl)) (fun _ _ _ _ _ => pts_one (pt_cmpR op_in_seq (pe_fld (pe_dget (by have := hr.un; show (A.deeper (envOfC "Program.__init__" (C8.fnScope sProg) s.heap.objs.size f cdv)).units + 1 < cLine; omega) (pe_fld (pv 0) (by rfl)) (pv 5) (fun _ _ => rfl)) (by rfl)) (pe_glob (v := .ref pw) (by rfl) mw rfl) rfl)) (fun _ _ _ _ _ => pv 5)))) rfl))))))), ?_⟩
  refine q_callS (vs := [x]) (ea_cons (ev_var rfl) ea_nil) fun H0 e0 => ⟨x, rfl, ?_⟩
  rcases h with ⟨t, ht, hne, k⟩ | ⟨text, rfl, hlt, kE, kQ⟩
  · exact .inl ⟨t, TyB_ex ht e0, hne, fun d H' e hd hd' => k d H' (e0.trans e) (fresh_back e0 hd) hd'⟩
  · refine .inr ⟨text, rfl, hlt, fun e he d H' ee hd hd' => kE e he d H' (e0.trans ee) (fresh_back e0 hd) hd', fun ls hls lrs ll H1 e1 hL hll hll0 hne hln => ?_⟩
    have e01 := e0.trans e1
    have hp1 := e01 _ _ hp
    have k0 := kQ ls hls
    have nxt : ∀ {G G' : Hp} {fs : List (Str × V)}, Keep (fun c => c = p) H1 G → Ex G G' → Keep (fun c => c = p) H1 (upd G' p (.ins CP dx fs)) := fun kk ee => (kk.ex ee).put rfl
    have hpl : ll ≠ p := fun z => by rw [z, hp1] at hll; cases hll
    refine q_fld hp1 (ev_var rfl) (v := .str (S text)) (ev_var rfl) G.cl G.n1 (by show 0 < 1000; decide) fun H2 e2 => ?_
    have kk2 := nxt (fs := putF "_text" (.str (S text)) []) (Keep.refl (fun c => c = p) H1) e2
    refine q_fldP (Pd := fun _ _ => True) upd_same (ev_var rfl) (evP_lines (j := 3) (ll := ll) L (hL.keep hp1 kk2) (kk2 _ _ hpl hll) (ev_var rfl) hln (fun _ => rfl) (fun _ => rfl)) G.cl G.n2 (by show 1 < 1000; decide) (fun _ _ _ _ _ h => h) fun v3 H3 e3 _ => ?_
    have kk3 := nxt (fs := putF "_lines" v3 (putF "_text" (.str (S text)) [])) kk2 e3
    have cut : EvL (tSl (rSlL K) (tVar 2) tNoPart (tPart (tUn (rU fun i => V.int (-i)) (tC (V.int 1))))) ([some (.ref p), some (.str (S text)), some (.ref ll), none, none, none] : L2.St) (upd H3 p (.ins CP dx (putF "_lines" v3 (putF "_text" (.str (S text)) [])))) (lrefs lrs.dropLast) := by
      have hcut : cutV (lrefs lrs) none (some (-1)) = lrefs lrs.dropLast := by
        rw [cut_last (fun z => by
          have lx : (lrefs lrs).length = ls.length := by unfold lrefs; rw [List.length_map, hL.len]
          rw [z] at lx
          cases ls with
          | nil => exact hne rfl
          | cons a b => simp at lx)]
        unfold lrefs
        rw [List.map_dropLast]
      rw [← hcut]
      exact el_sl (ev_var rfl) eo_none (eo_some (ev_un ev_c ru_neg)) (sq_of (kk3 _ _ hpl hll))
    refine q_fldP (Pd := fun _ _ => True) upd_same (ev_var rfl) (evP_tup (evP_L (el_lnamesN (j := 3) L (hL.keep hp1 kk3).drop cut (by simp; omega) (fun _ => rfl) (fun _ => rfl)))) G.cl G.n3 (by show 2 < 1000; decide) (fun _ _ _ _ _ h => h) fun v4 H4 e4 _ => ?_
    have kk4 := nxt (fs := putF "_parts" v4 (putF "_lines" v3 (putF "_text" (.str (S text)) []))) kk3 e4
    refine q_fldP upd_same (ev_var rfl) (evP_nodes (ll := ll) L N (hL.keep hp1 kk4) (kk4 _ _ hpl hll) hln) G.cl G.n4 (by show 3 < 1000; decide) (fun v A1 A2 _ ee ⟨D, kvs, a, b, c, d⟩ => ⟨D, kvs, a, ee _ _ b, c, d⟩) fun v5 H5 e5 hv5 => ?_
    obtain ⟨D, kvs, rfl, hD5, hkl, hkn⟩ := hv5
    have hDp : D ≠ p := fun z => by
      have := e5 _ _ (upd_same (H := H4) (a := p) (o := .ins CP dx (putF "_parts" v4 (putF "_lines" v3 (putF "_text" (.str (S text)) [])))))
      rw [← z, hD5] at this
      cases this
    have kk5 := nxt (fs := putF "nodes" (.ref D) (putF "_parts" v4 (putF "_lines" v3 (putF "_text" (.str (S text)) [])))) kk4 e5
    have hD5' : (upd H5 p (.ins CP dx (putF "nodes" (.ref D) (putF "_parts" v4 (putF "_lines" v3 (putF "_text" (.str (S text)) [])))))) D = some (.dT kvs) := (upd_ne hDp).trans hD5
    refine q_fldP (Pd := fun _ _ => True) upd_same (ev_var rfl) (evP_tup ?_) G.cl G.n5 (by show 4 < 1000; decide) (fun _ _ _ _ _ h => h) fun v6 H6 e6 _ => ?_
    · refine fun Q' q => ⟨_, rfl, p, CP, dx, _, _, rfl, upd_same, G.cl, G.n4, rfl, D, kvs, rfl, .inl hD5', fun t bs ht _ => q _ _ (ex_put ht (Ex.refl _)) ⟨t, _, rfl, upd_same⟩⟩
    · have kk6 := nxt (fs := putF "_places" v6 (putF "nodes" (.ref D) (putF "_parts" v4 (putF "_lines" v3 (putF "_text" (.str (S text)) []))))) kk5 e6
      refine s_fldP upd_same (ev_var rfl) (evP_tup (evP_binds (ws := [[99, 97, 108, 108], [108, 101, 116], [112, 97, 105, 114]]) G N (hL.keep hp1 kk6) upd_same rfl ((upd_ne hDp).trans (e6 _ _ hD5')) hkn hkl hw)) G.cl G.n6 (by show 5 < 1000; decide) fun v7 H7 e7 => ?_
      exact k0 _ (fun c o hc hh => nxt kk6 e7 c o hc (e01 _ _ hh))
end
end K5
set_option Elab.async false
set_option linter.all false
set_option maxRecDepth 100000
set_option maxHeartbeats 4000000
namespace K5
open PySem PySem.Spec PyProof.Rows L2 Evl Xl SX Mi
/-! ### the law's own call -/
structure NumC (K : PySem.W.Frag) (mg : Str → Option Value) (CS CB : Addr) : Prop where
  mgS : mg "UseError" = some (.ref CS)
  mgB : mg "BadProgram" = some (.ref CB)
  exm : PySem.W.exmOne K (.ref CB) (.ref CS) = some true
  kit1 : PySem.W.kitOne K (.ref CB) (.ref CB) = some true
  kit2 : PySem.W.kitOne K (.type "NoneType") (.ref CB) = some false
  exc : ExcC K CB
  xf : XfC K CB
  noV : PySem.W.findIn K (.ref CB) "value" = some none
def qn : Str := "_law_number_of.<locals>.<lambda>"
theorem extN_of {H H' : Hp} (e : Ex H H') : LamX.ExtN H H' := fun b o h _ => e b o h
theorem extN_trans {H H1 H2 : Hp} (a : LamX.ExtN H H1) (b : Ex H1 H2) : LamX.ExtN H H2 := fun c o h n => b c o (a c o h n)
theorem tabs_ex {T : List (Addr × Str)} {H H' : Hp} (t : LamX.Tabs T H) (e : Ex H H') : LamX.Tabs T H' := fun p hp => (t p hp).ext e
theorem TyB_extN {K : PySem.W.Frag} {H H' : Hp} {x : V} {t : String} (h : TyB K H x t) (e : LamX.ExtN H H') : TyB K H' x t := by
  have rd : ∀ {a : Addr} {u : HO}, (∀ ps, u ≠ .tbl ps) → Rd H a u → Rd H' a u := fun hu r => r.imp (fun z => e _ _ z hu) fun ⟨o, z⟩ => ⟨o, e _ _ z fun _ q => by cases q⟩
  cases h with
  | non => exact .non
  | bl b => exact .bl b
  | int i => exact .int i
  | str x => exact .str x
  | byt b => exact .byt b
  | lst h => exact .lst (h.imp (rd fun _ z => by cases z) id)
  | tup h => exact .tup (h.imp (rd fun _ z => by cases z) id)
  | dK h => exact .dK (e _ _ h fun _ z => by cases z)
def numV (r : Except Nat (List Ln)) : V := match r with
  | .error e => .int (e : Nat)
  | .ok _ => .non
def spNum (K : PySem.W.Frag) (P : Addr) : Sp := fun vs H Q _ => ∃ x, vs = [x] ∧ LamX.Tabs [(P, qn)] H ∧
  ((∃ T, TyB K H x T ∧ T ≠ "str" ∧ ∀ H', LamX.ExtN H H' → LamX.Tabs [(P, qn)] H' → Q (.int 0) H') ∨
  ∃ text : Wd, x = .str (S text) ∧ text.length ≤ 900 ∧ ∀ H', LamX.ExtN H H' → LamX.Tabs [(P, qn)] H' → Q (numV (readProg text)) H')
theorem scNo : FnScope ["text", "caught"] ["text"] (C8.fnScope (top 43)) := C8.fnScope_by (by decide +kernel)
theorem scCa : FnScope ["call", "act", "caught"] ["call"] (C8.fnScope (top 41)) := C8.fnScope_by (by decide +kernel)
section
variable {Pg : Program} {w : World} {K : PySem.W.Frag} {mg : Str → Option Value} {base : Heap} {f : Addr} {fd : FuncData}
theorem ok_number {c P g CS CB CP fP : Addr} {fdP : FuncData} {oc dV kV doc pm ct : Value} {od an : Option Addr} {osl : Array (Option Value)} {oc2 dV2 kV2 doc2 pm2 ct2 cd2 : Value} {od2 an2 : Option Addr} {osl2 : Array (Option Value)}
    (lk : K.lookup f = some ⟨oc, od, .func (PySem.W.fnOf "_law_number_of" "_law_number_of" (C8.fnArgs (top 43)) (C8.fnBody (top 43)) (C8.fnScope (top 43)) dV kV doc pm an (.ref c) ct), osl⟩) (hcd : PySem.W.codeIn K (.ref c) "_law_number_of" = true) (TB : LamX.TabB base mg c P)
    (lk2 : K.lookup g = some ⟨oc2, od2, .func (PySem.W.fnOf "_law_caught" "_law_caught" (C8.fnArgs (top 41)) (C8.fnBody (top 41)) (C8.fnScope (top 41)) dV2 kV2 doc2 pm2 an2 cd2 ct2), osl2⟩) (hcd2 : PySem.W.codeIn K cd2 "_law_caught" = true) (mG : mg "_law_caught" = some (.ref g)) (kG : PySem.W.keepIn K (.ref g) = true)
    (bG : Binds K (PySem.W.fnOf "_law_caught" "_law_caught" (C8.fnArgs (top 41)) (C8.fnBody (top 41)) (C8.fnScope (top 41)) dV2 kV2 doc2 pm2 an2 cd2 ct2) ["call"] [])
    (T : Txt2 K w mg) (U : NumC K mg CS CB) (G : ProgC K mg CP) (M : Mk K CP fP) (FP : FnOk Pg w K mg base (L2.CX Pg w) 7 fP fdP ["self", "text"] (spPr K CB CP)) (bP : Binds K fdP ["self", "text"] []) :
    FnOk Pg w K mg base C8.CX0 11 f (PySem.W.fnOf "_law_number_of" "_law_number_of" (C8.fnArgs (top 43)) (C8.fnBody (top 43)) (C8.fnScope (top 43)) dV kV doc pm an (.ref c) ct) ["text"] (spNum K P) := by
  refine fn_of lk hcd scNo (fun vs H Q E h => by obtain ⟨x, rfl, _⟩ := h; rfl) fun A outer s H vs Q E hr h => ?_
  obtain ⟨x, rfl, hT, h⟩ := h
  refine ⟨_, pss_cons (ps_set (i := 1) scNo.nd rfl (Or.inl rfl) (pe_ix ix_tup (LamX.pe_lamcall (T := [(P, qn)]) (TT := Xv.TTcaught K CS) (k := 8) (t := fun E => tMake CP (spPr K CB CP) [] E (tCons (tVar 0) tNil)) (by rfl) mG kG lk2 hcd2 bG scCa rfl (.inl rfl)
      (Xv.caught_gives rfl rfl rfl rfl U.mgS) TB rfl (by first | exact List.mem_singleton.mpr (Prod.ext rfl (by rfl)) | decide) (fun p hp _ => by rw [List.mem_singleton.mp hp]; rfl) hr (LamX.lamS_by (by show LamX.lamSB (C8.fnScope (top 43)) _ = true; decide +kernel)) rfl (fun _ _ _ _ _ => rfl)
      (fun A outer s H E f c' hr2 => pe_make M FP hr2 (by rfl) G.mgC bP .nil (fun pins σ H s e s' I h => passAt (takes_of rfl rfl rfl rfl) σ pins H s e s' I h) (pa_cons (pv 0) pa_nil))) pe_int (fun _ _ => rfl)))
    (pss_one (ps_ret (pe_ifExp (pt_val (pe_callB Xv.call_isV (by rfl) T.isi_ (by decide +kernel) (pa_cons (pv 1) (pa_cons (pe_glob (v := .ref CB) (by rfl) U.mgB rfl) pa_nil)))) (Xv.pe_xv (pv 1)) pe_non))), ?_⟩
  refine ⟨hT, fun H1 e1 hT1 => ?_⟩
  unfold Xv.TTcaught
  dsimp only
  refine r_make (vs := [x]) (ea_cons (ev_var rfl) ea_nil) fun H2 e2 p dx hp hdx hne => ?_
  have x3 : Ex H2 (upd (upd H2 dx (.own p)) p (.ins CP dx [])) := ex_put hp (ex_put hdx (Ex.refl H2))
  have e13 := e2.trans x3
  -- what comes of a refusal
  have bad : ∀ (n : Int), (∀ H', LamX.ExtN H H' → LamX.Tabs [(P, qn)] H' → Q (.int n) H') → ∀ (d : Addr) (H' : Hp), Ex (upd (upd H2 dx (.own p)) p (.ins CP dx [])) H' → H' d = some (.xd [("value", .int n)]) →
      PySem.W.exmOne K (.ref CB) (.ref CS) = some true ∧ ∀ a t, H' a = none → H' t = none → t ≠ a → tOp (rIxT K) (fun σ H Q => Q (.ref t) (upd (upd H' t (.tup [.ref a, .non])) a (Xv.exv a (.ref CB) (some d)))) (tC (.int 0)) (start ["text", "caught"] [x]) H fun v J => tRet (tIf (tB (tCB (Xv.rIsV K) (tCons (tVar 1) (tCons (tC (V.ref CB)) tNil)))) (Xv.tXv K "value" (tVar 1)) (tC .non)) { nx := fun _ H' => Q .non H', rt := Q } ((start ["text", "caught"] [x]).set 1 (some v)) J := by
    intro n kq d H' ee hd
    refine ⟨U.exm, fun a t ha ht hta => ?_⟩
    have x5 : Ex H' (upd (upd H' t (.tup [.ref a, .non])) a (Xv.exv a (.ref CB) (some d))) := ex_put ha (ex_put ht (Ex.refl H'))
    have st : (upd (upd H' t (.tup [.ref a, .non])) a (Xv.exv a (.ref CB) (some d))) t = some (.tup [.ref a, .non]) := (upd_ne hta).trans upd_same
    have sa : (upd (upd H' t (.tup [.ref a, .non])) a (Xv.exv a (.ref CB) (some d))) a = some (Xv.exv a (.ref CB) (some d)) := upd_same
    have sd := x5 _ _ hd
    refine ⟨t, _, 0, .ref a, rfl, rfl, st_of st, rfl, ?_⟩
    refine s_ret (v := .int n) (ev_if (b := true) (et_B ?_) (fun _ => ?_) fun z => (by cases z)) fun H5 e5 => ?_
    · exact ev_cb (vs := [.ref a, .ref CB]) (ea_cons (ev_var rfl) (ea_cons ev_c ea_nil)) fun H4 e4 Q' q => ⟨.ref a, .ref CB, .ref CB, .ref CB, true, rfl, .own CB, .inr ⟨a, CB, d, _, rfl, rfl, e4 _ _ sa, e4 _ _ sd, U.exc⟩, U.kit1, q H4 (Ex.refl H4)⟩
    · exact fun H4 e4 Q' q => ⟨_, rfl, a, CB, d, _, .int n, rfl, e4 _ _ sa, e4 _ _ sd, U.xf, U.noV, rfl, q H4 (Ex.refl H4)⟩
    have eA := ((e13.trans ee).trans x5).trans e5
    exact kq H5 (extN_trans e1 eA) (tabs_ex hT1 eA)
  refine ⟨p, dx, x, rfl, upd_same, ?_⟩
  rcases h with ⟨t, ht, hns, k⟩ | ⟨text, rfl, hlt, k⟩
  · exact .inl ⟨t, TyB_ex (TyB_extN ht e1) e13, hns, fun d H' ee hd hd' => bad 0 k d H' ee hd'⟩
  · refine .inr ⟨text, rfl, hlt, fun e he d H' ee hd hd' => bad (e : Nat) (fun H' a b => by have := k H' a b; rw [he] at this; exact this) d H' ee hd', fun ls hls H' K' => ⟨rfl, fun t ht => ?_⟩⟩
    have ex' : Ex H2 H' := fun c o hc => K' c o (fun z => by rw [z, hp] at hc; cases hc) (x3 c o hc)
    refine ⟨t, _, 0, .non, rfl, rfl, st_of upd_same, rfl, ?_⟩
    refine s_ret (v := .non) (ev_if (b := false) (et_B ?_) (fun z => (by cases z)) fun _ => ev_c) fun H5 e5 => ?_
    · exact ev_cb (vs := [.non, .ref CB]) (ea_cons (ev_var rfl) (ea_cons ev_c ea_nil)) fun H4 e4 Q' q => ⟨.non, .ref CB, .type "NoneType", .ref CB, false, rfl, .own CB, .inl (.base .non), U.kit2, q H4 (Ex.refl H4)⟩
    · have eA := ((e2.trans ex').trans (ex_put ht (Ex.refl H'))).trans e5
      have := k H5 (extN_trans e1 eA) (tabs_ex hT1 eA)
      rw [hls] at this
      exact this
end
end K5
set_option Elab.async false
set_option linter.all false
set_option maxRecDepth 100000
set_option maxHeartbeats 4000000
namespace K5
open PySem PySem.Spec PyProof.Rows L2 Evl Xl SX Mi
structure Txt3 (K : PySem.W.Frag) (w : World) (mg : Str → Option Value) : Prop extends Txt2 K w mg where
  sum_ : mg "sum" = none
  abs_ : mg "abs" = none
  repr_ : mg "repr" = none
  range_ : mg "range" = none
theorem op_powB {X : Cx} : OpR X (binaryOp .Pow) (rI (fun i j => 0 ≤ j ∧ (PySem.Builtin.Int.intBits i : Int) * j ≤ 2 ^ 27) fun i j => .int (i ^ j.toNat)) :=
  opI fun _ _ _ _ _ _ _ hc q => PyProof.Rows.pow_int hc.1 hc.2 q
theorem ev_int1 {te : TE} {σ : L2.St} {H : Hp} {i : Int} (h : Ev te σ H (.int i)) : Ev (tCB (fun xs H Q => (∃ i, xs = [V.int i] ∧ Q (V.int i) H) ∨ ∃ k, xs = [V.bl k] ∧ Q (V.int (if k = true then 1 else 0)) H) (tCons te tNil)) σ H (.int i) :=
  ev_cb (ea_cons h ea_nil) fun H1 e1 Q q => .inl ⟨i, rfl, q H1 (Ex.refl H1)⟩
theorem ev_intB {te : TE} {σ : L2.St} {H : Hp} {b : Bool} (h : Ev te σ H (.bl b)) : Ev (tCB (fun xs H Q => (∃ i, xs = [V.int i] ∧ Q (V.int i) H) ∨ ∃ k, xs = [V.bl k] ∧ Q (V.int (if k = true then 1 else 0)) H) (tCons te tNil)) σ H (.int (if b = true then 1 else 0)) :=
  ev_cb (ea_cons h ea_nil) fun H1 e1 Q q => .inr ⟨b, rfl, q H1 (Ex.refl H1)⟩
theorem ev_abs {te : TE} {σ : L2.St} {H : Hp} {i : Int} (h : Ev te σ H (.int i)) : Ev (tCB (fun xs H Q => ∃ i, xs = [V.int i] ∧ Q (V.int (if i < 0 then -i else i)) H) (tCons te tNil)) σ H (.int (if i < 0 then -i else i)) :=
  ev_cb (ea_cons h ea_nil) fun H1 e1 Q q => ⟨i, rfl, q H1 (Ex.refl H1)⟩
theorem nat_lt {i m : Int} {n : Nat} (h0 : 0 ≤ i) (h1 : i < m) (h2 : m ≤ ((2 ^ n : Nat) : Int)) : i.natAbs < 2 ^ n := by
  have h := Int.natAbs_of_nonneg h0
  have : (i.natAbs : Int) < ((2 ^ n : Nat) : Int) := by rw [h]; exact Int.lt_of_lt_of_le h1 h2
  exact Int.ofNat_lt.mp this
theorem bit01 (b : Bool) : 0 ≤ (if b = true then (1 : Int) else 0) ∧ (if b = true then (1 : Int) else 0).natAbs < 2 ^ 2 := by cases b <;> decide
section
variable {P : Program} {w : World} {K : PySem.W.Frag} {mg : Str → Option Value} {base : Heap} {f : Addr} {fd : FuncData}
def spPot (K : PySem.W.Frag) : Sp := fun vs H Q _ => ∃ (a : Addr) (ns : List Int), vs = [.ref a, .int 0] ∧ SqL K H a (ns.map V.int) ∧ ns.length ≤ 63 ∧ ∀ (p : Addr) (o m : Int) (H' : Hp), H p = none → Ex H H' → H' p = some (.lst [.int o, .int m, .int 0]) → 0 ≤ o → 0 ≤ m → m < 2305843009213693921 → Q (.ref p) H'
abbrev nPot : List Str := ["script", "place", "cell", "own", "small"]
theorem scPot : FnScope nPot ["script", "place"] (C8.fnScope (top 38)) := C8.fnScope_by (by decide +kernel)
theorem ok_pot (F : C8.Def K mg "_law_pot" (top 38) f fd) (b : Binds K fd ["script", "place"] []) (T : Txt3 K w mg) : C8.Cal P w K mg base 1 "_law_pot" (spPot K) [] := by
  refine C8.cal0 F b .nil scPot (fun vs H Q E h => by obtain ⟨a, ns, rfl, _⟩ := h; rfl) (fun cdv A outer s H vs Q E hr h => ?_)
  obtain ⟨a, ns, rfl, ha, hn, k⟩ := h
  refine ⟨_, pss_cons (ps_set (i := 2) scPot.nd rfl (Or.inl rfl) (pe_ifExp (pt_cmpR op_lt (pv 1) (pe_callB call_len_seq (by rfl) T.len_ boot_len (pa_cons (pv 0) pa_nil)) (nomark _)) (pe_ix ix_list (pv 0) (pv 1) (fun _ _ => rfl))
      (pe_op op_add (pe_op op_add (pe_op op_mod (pe_callTy call_int1 (by rfl) T.int_ (by decide +kernel) (pa_cons (pe_callB (cr_sum rfl) (by rfl) T.sum_ (by decide +kernel) (pa_cons (pe_slice sl_list (pv 0) po_none (po_some pe_int)) pa_nil)) pa_nil)) pe_int) (pe_op op_mulW pe_int (pv 1))) pe_int)))
    (pss_cons (ps_set (i := 3) scPot.nd rfl (Or.inl rfl) (pe_op op_mulW (pe_op op_mod (pe_callTy call_int1 (by rfl) T.int_ (by decide +kernel) (pa_cons (pe_callB call_abs (by rfl) T.abs_ (by decide +kernel) (pa_cons (pv 2) pa_nil)) pa_nil)) (pe_op op_powB (pe_op op_powB pe_int pe_int) pe_int))
      (pe_callTy call_int1 (by rfl) T.int_ (by decide +kernel) (pa_cons (pe_cmpR op_ge (pe_callB call_abs (by rfl) T.abs_ (by decide +kernel) (pa_cons (pv 2) pa_nil)) (pe_op op_powB pe_int pe_int) (nomark _)) pa_nil))))
    (pss_cons (ps_set (i := 4) scPot.nd rfl (Or.inl rfl) (pe_op op_mod (pe_callTy call_int1 (by rfl) T.int_ (by decide +kernel) (pa_cons (pv 2) pa_nil)) pe_int))
    (pss_one (ps_ret (pe_lst (pa_cons (pv 3) (pa_cons (pe_op op_mod (pe_callTy call_int1 (by rfl) T.int_ (by decide +kernel) (pa_cons (pe_op op_add (pe_op op_add (pe_op op_mulW (pv 4) pe_int) (pe_op op_mulW (pe_op op_mulW pe_int (pv 1)) (pv 1))) pe_int) pa_nil)) pe_int) (pa_cons pe_int pa_nil)))))))), ?_⟩
  have hcell : ∃ cell : Int, Ev (tIf (tTest (tOp (rI0 fun i j => V.bl (decide (i < j))) (tVar 1) (tCB (rLenS K) (tCons (tVar 0) tNil)))) (tOp (rIxL K) (tVar 0) (tVar 1))
      (tOp (rI0 fun i j => V.int (i + j)) (tOp (rI0 fun i j => V.int (i + j)) (tOp (rI (fun _ j => 0 < j) fun i j => V.int (i % j)) (tCB (fun xs H Q => (∃ i, xs = [V.int i] ∧ Q (V.int i) H) ∨ ∃ k, xs = [V.bl k] ∧ Q (V.int (if k = true then 1 else 0)) H) (tCons (tCB (rSum K) (tCons (tSl (rSlL K) (tVar 0) tNoPart (tPart (tC (V.int 1)))) tNil)) tNil)) (tC (.int 1000003))) (tOp (rI CMulW fun i j => V.int (i * j)) (tC (.int 1391)) (tVar 1))) (tC (.int 981))))
      (start nPot [V.ref a, .int 0]) H (.int cell) := by
    cases ns with
    | nil =>
      refine ⟨0 % 1000003 + 1391 * 0 + 981, ev_if (b := false) (et_is (et_test (ev_op (ev_var rfl) (ev_len (ev_var rfl) ha) rv_I0)) (by simp)) (fun z => by cases z) fun _ => ?_⟩
      refine ev_op (ev_op (ev_op (ev_int1 (i := 0) ?_) ev_c (rv_I (by decide))) (ev_op ev_c (ev_var rfl) (rv_I (wide_mul (a := 20) (b := 20) (by decide) (by decide) (by decide) (by decide) (by decide)))) rv_I0) ev_c rv_I0
      exact fun H1 e Q q => (el_sl (K := K) (lo := none) (hi := some 1) (ev_var rfl) eo_none (eo_some ev_c) ha) H1 e _ fun p H2 hp e2 hx => ⟨p, [], rfl, sq_of hx, q H2 e2⟩
    | cons c r =>
      exact ⟨c, ev_if (b := true) (et_is (et_test (ev_op (ev_var rfl) (ev_len (ev_var rfl) ha) rv_I0)) (by simp)) (fun _ => ev_op (ev_var rfl) (ev_var rfl) (rv_ixL ha (atI_nat (j := 0) rfl))) fun z => by cases z⟩
  obtain ⟨cell, hc⟩ := hcell
  refine q_asg hc fun H1 e1 => ?_
  refine q_asg (v := .int (((if cell < 0 then -cell else cell) % ((10 ^ (60 : Int).toNat) ^ (5 : Int).toNat)) * (if decide ((10 : Int) ^ (18 : Int).toNat ≤ (if cell < 0 then -cell else cell)) = true then 1 else 0))) ?_ fun H2 e2 => ?_
  · refine ev_op (ev_op (ev_int1 (ev_abs (ev_var rfl))) (ev_op (ev_op ev_c ev_c (rv_I (by decide +kernel))) ev_c (rv_I (by decide +kernel))) (rv_I (by decide +kernel))) (ev_intB (ev_op (ev_abs (ev_var rfl)) (ev_op ev_c ev_c (rv_I (by decide +kernel))) rv_I0)) (rv_I (wide_mul (a := 1000) (b := 2) ?_ ?_ (by decide) (by decide) (by decide)))
    · exact nat_lt (Int.emod_nonneg _ (by decide +kernel)) (Int.emod_lt_of_pos _ (by decide +kernel)) (by decide +kernel)
    · exact (bit01 _).2
  · refine q_asg (v := .int (cell % 2305843009213693951)) (ev_op (ev_int1 (ev_var rfl)) ev_c (rv_I (by decide))) fun H3 e3 => ?_
    have s0 : 0 ≤ cell % 2305843009213693951 := Int.emod_nonneg _ (by decide)
    have s1 : cell % 2305843009213693951 < 2305843009213693951 := Int.emod_lt_of_pos _ (by decide)
    refine (el_lst (ea_cons (ev_var rfl) (ea_cons (ev_op (ev_int1 (ev_op (ev_op (ev_op (ev_var rfl) ev_c (rv_I (wide_mul (a := 61) (b := 30) ?_ (by decide) (by decide) (by decide) (by decide)))) (ev_op (ev_op ev_c (ev_var rfl) (rv_I (wide_mul (a := 20) (b := 20) (by decide) (by decide) (by decide) (by decide) (by decide)))) (ev_var rfl) (rv_I (wide_mul (a := 20) (b := 20) (by decide) (by decide) (by decide) (by decide) (by decide)))) rv_I0) ev_c rv_I0)) ev_c (rv_I (by decide))) (ea_cons ev_c ea_nil))) (by show 3 ≤ 100000; decide)) H3 (Ex.refl H3) _ fun p H4 hp e4 hx => ?_
    · exact nat_lt s0 s1 (by decide)
    · have e13 := (e1.trans e2).trans e3
      refine k p _ _ H4 (fresh_back e13 hp) (e13.trans e4) hx ?_ (Int.emod_nonneg _ (by decide)) (Int.emod_lt_of_pos _ (by decide))
      exact Int.mul_nonneg (Int.emod_nonneg _ (by decide +kernel)) (bit01 _).1
end
end K5
set_option Elab.async false
set_option linter.all false
set_option maxRecDepth 100000
set_option maxHeartbeats 4000000
namespace K5
open PySem PySem.Spec PyProof.Rows L2 Evl Xl SX Mi
section
variable {P : Program} {w : World} {K : PySem.W.Frag} {mg : Str → Option Value} {base : Heap} {f : Addr} {fd : FuncData}
def spTake : Sp := fun vs H Q _ => ∃ (p : Addr) (o m : Int), vs = [.ref p, .int 14] ∧ H p = some (.lst [.int o, .int m, .int 0]) ∧ 0 ≤ o ∧ 0 ≤ m ∧ m < 2305843009213693921 ∧ ∀ (r : Nat) (H' : Hp), r < 14 → Keep (fun c => c = p) H H' → Q (.int r) H'
abbrev nTk : List Str := ["pot", "upto", "digit", "prime", "blend"]
theorem scTk : FnScope nTk ["pot", "upto"] (C8.fnScope (top 39)) := C8.fnScope_by (by decide +kernel)
theorem mod14 (x : Int) : ∃ r : Nat, r < 14 ∧ x % 14 = (r : Int) := ⟨(x % 14).toNat, by omega, by omega⟩
theorem ok_take (F : C8.Def K mg "_law_take" (top 39) f fd) (b : Binds K fd ["pot", "upto"] []) (T : Txt3 K w mg) : C8.Cal P w K mg base 1 "_law_take" spTake [] := by
  refine C8.cal0 F b .nil scTk (fun vs H Q E h => by obtain ⟨p, o, m, rfl, _⟩ := h; rfl) (fun cdv A outer s H vs Q E hr h => ?_)
  obtain ⟨p, o, m, rfl, hp, ho, hm0, hm1, k⟩ := h
  refine ⟨_, pss_cons (ps_if (pt_cmpR op_gt (pe_ix ix_list (pv 0) pe_int (fun _ _ => rfl)) pe_int (nomark _))
      (pss_cons (ps_set (i := 2) scTk.nd rfl (Or.inl rfl) (pe_op op_mod (pe_callTy call_int1 (by rfl) T.int_ (by decide +kernel) (pa_cons (pe_ix ix_list (pv 0) pe_int (fun _ _ => rfl)) pa_nil)) (pv 1)))
      (pss_cons (ps_asg (pe_op op_fdiv (pe_ix ix_list (pv 0) pe_int (fun _ _ => rfl)) (pv 1)) (pg_sub (pv 0) pe_int set_list))
      (pss_one (ps_ret (pv 2))))) pss_nil)
    (pss_cons (ps_asg (pe_op op_add (pe_ix ix_list (pv 0) pe_int (fun _ _ => rfl)) pe_int) (pg_sub (pv 0) pe_int set_list))
    (pss_cons (ps_set (i := 3) scTk.nd rfl (Or.inl rfl) (pe_ix ix_list (pe_lst (pa_cons pe_int (pa_cons pe_int (pa_cons pe_int (pa_cons pe_int (pa_cons pe_int pa_nil)))))) (pe_op op_mod (pe_callTy call_int1 (by rfl) T.int_ (by decide +kernel) (pa_cons (pe_ix ix_list (pv 0) pe_int (fun _ _ => rfl)) pa_nil)) pe_int) (fun _ _ => rfl)))
    (pss_cons (ps_set (i := 4) scTk.nd rfl (Or.inl rfl) (pe_op op_mod (pe_callTy call_int1 (by rfl) T.int_ (by decide +kernel) (pa_cons (pe_op op_pow (pe_callTy call_int1 (by rfl) T.int_ (by decide +kernel) (pa_cons (pe_op op_add (pe_op op_add (pe_ix ix_list (pv 0) pe_int (fun _ _ => rfl)) (pe_op op_mulW (pe_op op_mulW pe_int (pe_ix ix_list (pv 0) pe_int (fun _ _ => rfl))) (pe_ix ix_list (pv 0) pe_int (fun _ _ => rfl)))) pe_int) pa_nil)) pe_int) pa_nil)) (pv 3)))
    (pss_one (ps_ret (pe_op op_mod (pe_callTy call_int1 (by rfl) T.int_ (by decide +kernel) (pa_cons (pe_op op_fdiv (pe_op op_mulW (pv 4) (pe_op op_add (pe_op op_mod (pe_callTy call_int1 (by rfl) T.int_ (by decide +kernel) (pa_cons (pv 4) pa_nil)) pe_int) (pe_op op_mulW pe_int (pe_ix ix_list (pv 0) pe_int (fun _ _ => rfl))))) pe_int) pa_nil)) (pv 1))))))), ?_⟩
  have v0 : ∀ {σ : L2.St} {G : Hp}, σ[0]? = some (some (.ref p)) → Ev (tVar 0) σ G (.ref p) := fun h => ev_var h
  have ixp : ∀ {σ : L2.St} {G : Hp} {xs : List V} {n : Nat} {v : V}, σ[0]? = some (some (.ref p)) → G p = some (.lst xs) → xs[n]? = some v → Ev (tOp (rIxL K) (tVar 0) (tC (.int n))) σ G v := fun h hG hx => ev_op (ev_var h) ev_c (rv_ixL (sq_of hG) (atI_nat hx))
  refine q_when (b := decide (0 < o)) (et_is (et_test (ev_op (ixp (n := 0) rfl hp rfl) ev_c rv_I0)) rfl) (fun hb H1 e1 => ?_) (fun hb H1 e1 => ?_)
  · refine q_asg (v := .int (o % 14)) (ev_op (ev_int1 (ixp (n := 0) rfl (e1 _ _ hp) rfl)) (ev_var rfl) (rv_I (by decide))) fun H2 e2 => ?_
    have e12 := e1.trans e2
    refine q_setL (j := 0) (v := .int (o / 14)) (e12 _ _ hp) (ev_op (ixp (n := 0) rfl (e12 _ _ hp) rfl) (ev_var rfl) (rv_I ⟨by decide, by decide⟩)) (ev_var rfl) ev_c (by show 0 < 3; decide) fun H3 e3 => ?_
    obtain ⟨r, hr14, hre⟩ := mod14 o
    exact s_ret (v := .int r) (ev_is (ev_var rfl) (by rw [hre])) fun H4 e4 => k r H4 hr14 (Keep.ex (Keep.put (T := fun c => c = p) (Keep.of (e12.trans e3)) rfl) e4)
  · refine q_setL (j := 2) (v := .int 1) (e1 _ _ hp) (ev_is (ev_op (ixp (n := 2) rfl (e1 _ _ hp) rfl) ev_c rv_I0) rfl) (ev_var rfl) ev_c (by show 2 < 3; decide) fun H2 e2 => ?_
    have hp2 : (upd H2 p (.lst ([V.int o, .int m, .int 0].set 2 (.int 1)))) p = some (.lst [.int o, .int m, .int 1]) := upd_same
    have k2 : Keep (fun c => c = p) H (upd H2 p (.lst ([V.int o, .int m, .int 0].set 2 (.int 1)))) := (Keep.of (e1.trans e2)).put rfl
    generalize upd H2 p (.lst ([V.int o, .int m, .int 0].set 2 (.int 1))) = G at hp2 k2
    refine q_asg (v := .int 2147483629) ?_ fun H3 e3 => ?_
    · have hl : EvL (tLst (tCons (tC (.int 2147483647)) (tCons (tC (.int 2147483629)) (tCons (tC (.int 2147483587)) (tCons (tC (.int 2147483579)) (tCons (tC (.int 2147483563)) tNil)))))) ([some (.ref p), some (.int 14), none, none, none] : L2.St) G [.int 2147483647, .int 2147483629, .int 2147483587, .int 2147483579, .int 2147483563] :=
        el_lst (ea_cons ev_c (ea_cons ev_c (ea_cons ev_c (ea_cons ev_c (ea_cons ev_c ea_nil))))) (by show 5 ≤ 100000; decide)
      exact fun H1 e Q' q => hl H1 e _ fun t H4 ht e4 hx => (ev_op (ev_int1 (ixp (n := 2) rfl hp2 rfl)) ev_c (rv_I (by decide)) : Ev _ _ G (.int (1 % 5))) H4 (e.trans e4) _ fun H5 e5 => ⟨t, _, 1, .int 2147483629, rfl, rfl, sq_of (e5 _ _ hx), rfl, q H5 (e4.trans e5)⟩
    · have hp3 := e3 _ _ hp2
      refine q_asg (v := .int (((m + 100129 * 1 * 1 + 1171) ^ (3 : Int).toNat) % 2147483629)) ?_ fun H4 e4 => ?_
      · refine ev_op (ev_int1 (ev_op (ev_int1 (ev_op (ev_op (ixp (n := 1) rfl hp3 rfl) (ev_op (ev_op ev_c (ixp (n := 2) rfl hp3 rfl) (rv_I (wide_mul (a := 20) (b := 20) (by decide) (by decide) (by decide) (by decide) (by decide)))) (ixp (n := 2) rfl hp3 rfl) (rv_I (wide_mul (a := 20) (b := 20) (by decide) (by decide) (by decide) (by decide) (by decide)))) rv_I0) ev_c rv_I0)) ev_c (rv_I ⟨by decide, by decide, by omega⟩))) (ev_var rfl) (rv_I (by decide))
      · have hp4 := e4 _ _ hp3
        generalize hbl : ((m + 100129 * 1 * 1 + 1171) ^ (3 : Int).toNat) % 2147483629 = bl
        have b0 : 0 ≤ bl := by rw [← hbl]; exact Int.emod_nonneg _ (by decide)
        have b1 : bl < 2147483629 := by rw [← hbl]; exact Int.emod_lt_of_pos _ (by decide)
        obtain ⟨r, hr14, hre⟩ := mod14 (bl * (bl % 10767 + 393 * 1) / 249)
        refine s_ret (v := .int r) (ev_is (ev_op (ev_int1 (ev_op (ev_op (ev_var rfl) (ev_op (ev_op (ev_int1 (ev_var rfl)) ev_c (rv_I (by decide))) (ev_op ev_c (ixp (n := 2) rfl hp4 rfl) (rv_I (wide_mul (a := 20) (b := 20) (by decide) (by decide) (by decide) (by decide) (by decide)))) rv_I0) (rv_I (wide_mul (a := 40) (b := 40) ?_ ?_ (by decide) (by decide) (by decide)))) ev_c (rv_I ⟨by decide, by decide⟩))) (ev_var rfl) (rv_I (by decide))) (by rw [hre])) fun H5 e5 => k r H5 hr14 ((k2.ex (e3.trans e4)).ex e5)
        · exact nat_lt b0 b1 (by decide)
        · exact nat_lt (m := 20000) (by omega) (by omega) (by decide)
/-! ### of, odd -/
def spOf : Sp := fun vs H Q _ => ∃ (p s : Addr) (o m : Int) (xs : List V), vs = [.ref p, .ref s] ∧ H p = some (.lst [.int o, .int m, .int 0]) ∧ 0 ≤ o ∧ 0 ≤ m ∧ m < 2305843009213693921 ∧ H s = some (.lst xs) ∧ xs.length = 14 ∧ s ≠ p ∧ ∀ (v : V) (H' : Hp), v ∈ xs → Keep (fun c => c = p) H H' → Q v H'
theorem scOf : FnScope ["pot", "some"] ["pot", "some"] (C8.fnScope (top 40)) := C8.fnScope_by (by decide +kernel)
theorem ok_of (F : C8.Def K mg "_law_of" (top 40) f fd) (b : Binds K fd ["pot", "some"] []) (T : Txt3 K w mg) (cT : C8.Cal P w K mg base 1 "_law_take" spTake []) : C8.Cal P w K mg base 2 "_law_of" spOf [] := by
  refine C8.cal0 F b .nil scOf (fun vs H Q E h => by obtain ⟨p, s, o, m, xs, rfl, _⟩ := h; rfl) (fun cdv A outer s H vs Q E hr h => ?_)
  obtain ⟨p, a, o, m, xs, rfl, hp, ho, hm0, hm1, ha, hx, hne, k⟩ := h
  refine ⟨_, pss_one (ps_ret (pe_ix ix_list (pv 1) (C8.pe_c cT hr (by decide) (by rfl) (pa_cons (pv 0) (pa_cons (pe_callB call_len_seq (by rfl) T.len_ boot_len (pa_cons (pv 1) pa_nil)) pa_nil))) (fun _ _ => rfl))), ?_⟩
  refine ⟨_, rfl, ?_⟩
  refine (ea_cons (ev_var rfl) (ea_cons (ev_is (ev_len (ev_var rfl) (sq_of ha)) (by rw [hx]; rfl)) ea_nil) : EvA (tCons (tVar 0) (tCons (tCB (rLenS K) (tCons (tVar 1) tNil)) tNil)) (start ["pot", "some"] [V.ref p, .ref a]) H [.ref p, .int 14]) H (Ex.refl H) _ fun H1 e1 => ?_
  refine ⟨p, o, m, rfl, e1 _ _ hp, ho, hm0, hm1, fun r H' hr14 K' => ?_⟩
  obtain ⟨v, hv⟩ : ∃ v, xs[r]? = some v := ⟨xs[r]'(by omega), List.getElem?_eq_getElem (by omega)⟩
  exact ⟨a, xs, r, v, rfl, rfl, sq_of (K' _ _ hne (e1 _ _ ha)), atI_nat hv, k v H' (List.mem_of_getElem? hv) fun c u n hc => K' c u n (e1 _ _ hc)⟩
def OddV (K : PySem.W.Frag) (p : Addr) (H : Hp) (v : V) : Prop := v ≠ .ref p ∧ ∃ T, TyB K H v T ∧ (T ≠ "str" ∨ ∃ x ∈ ([[49], [], [48, 49]] : List Wd), v = .str (S x))
theorem OddV.ex {p : Addr} {H H' : Hp} {v : V} (h : OddV K p H v) (e : Ex H H') : OddV K p H' v := by
  obtain ⟨n, T, h1, h2⟩ := h
  exact ⟨n, T, TyB_ex h1 e, h2⟩
theorem OddV.keep {p : Addr} {H H' : Hp} {v : V} (h : OddV K p H v) (e : Keep (fun c => c = p) H H') : OddV K p H' v := by
  obtain ⟨n, T, h1, h2⟩ := h
  have rd : ∀ {a : Addr} {u : HO}, V.ref a ≠ .ref p → Rd H a u → Rd H' a u := fun hu r => r.imp (fun z => e _ _ (fun q => hu (by rw [q])) z) fun ⟨o, z⟩ => ⟨o, e _ _ (fun q => hu (by rw [q])) z⟩
  refine ⟨n, T, ?_, h2⟩
  cases h1 with
  | non => exact .non
  | bl b => exact .bl b
  | int i => exact .int i
  | str x => exact .str x
  | byt b => exact .byt b
  | lst h => exact .lst (h.imp (rd n) id)
  | tup h => exact .tup (h.imp (rd n) id)
  | dK h => exact .dK (e _ _ (fun q => n (by rw [q])) h)
def OE (K : PySem.W.Frag) (p : Addr) (te : TE) (σ : L2.St) : Prop := ∀ H, H p ≠ none → ∀ (Q : VK), (∀ v H1, Ex H H1 → OddV K p H1 v → Q v H1) → te σ H Q
def OA (K : PySem.W.Frag) (p : Addr) (ta : TA) (σ : L2.St) (n : Nat) : Prop := ∀ H, H p ≠ none → ∀ (Q : List V → Hp → Prop), (∀ vs H1, Ex H H1 → vs.length = n → (∀ v ∈ vs, OddV K p H1 v) → Q vs H1) → ta σ H Q
theorem ex_some {H H1 : Hp} {p : Addr} (h : H p ≠ none) (e : Ex H H1) : H1 p ≠ none := by
  cases z : H p with
  | none => exact absurd z h
  | some o => rw [e _ _ z]; simp
theorem ref_ne {H : Hp} {p q : Addr} (h : H p ≠ none) (hq : H q = none) : V.ref q ≠ .ref p := fun z => by
  have : q = p := V.ref.inj z
  rw [this] at hq
  exact h hq
theorem oa_nil {p : Addr} {σ : L2.St} : OA K p tNil σ 0 := fun H _ Q q => q [] H (Ex.refl H) rfl fun v hv => by cases hv
theorem oa_cons {p : Addr} {ta : TE} {tr : TA} {σ : L2.St} {n : Nat} (h : OE K p ta σ) (hr : OA K p tr σ n) : OA K p (tCons ta tr) σ (n + 1) := fun H hp Q q =>
  h H hp _ fun v H1 e1 hv => hr H1 (ex_some hp e1) _ fun vs H2 e2 hn hvs => q (v :: vs) H2 (e1.trans e2) (by simp [hn]) fun u hu => by
    rcases List.mem_cons.mp hu with z | z
    · rw [z]; exact hv.ex e2
    · exact hvs u z
theorem oe_c {p : Addr} {σ : L2.St} {v : V} (h : ∀ H, OddV K p H v) : OE K p (tC v) σ := fun H _ Q q => q v H (Ex.refl H) (h H)
theorem oe_lst {p : Addr} {ta : TA} {σ : L2.St} {vs : List V} (h : ∀ H, EvA ta σ H vs) (hn : vs.length ≤ 100) : OE K p (tLst ta) σ := fun H hp Q q =>
  el_lst (h H) (by omega) H (Ex.refl H) _ fun t H1 ht e1 hx => q _ _ e1 ⟨ref_ne hp ht, "list", .lst (sq_of hx), .inl (by decide)⟩
theorem oe_tup {p : Addr} {ta : TA} {σ : L2.St} {n : Nat} (h : OA K p ta σ n) (hn : n ≤ 100) : OE K p (tTup ta) σ := fun H hp Q q => h H hp _ fun vs H1 e1 hl _ => ⟨by rw [sizeLine_eq]; omega, fun t ht => q _ _ (e1.trans (ex_put ht (Ex.refl H1))) ⟨ref_ne (ex_some hp e1) ht, "tuple", .tup (st_of upd_same), .inl (by decide)⟩⟩
theorem oe_dict {p : Addr} {σ : L2.St} : OE K p tDNewK σ := fun H hp Q q => fun t ht => q _ _ (ex_put ht (Ex.refl H)) ⟨ref_ne hp ht, "dict", .dK upd_same, .inl (by decide)⟩
theorem oe_int {p : Addr} {te : TE} {σ : L2.St} {i : Int} (h : ∀ H, Ev te σ H (.int i)) : OE K p te σ := fun H _ Q q => h H H (Ex.refl H) _ fun H1 e1 => q _ _ e1 ⟨fun z => (by cases z), "int", .int i, .inl (by decide)⟩
theorem lst_arg {p : Addr} {ta : TA} {σ : L2.St} {n : Nat} {H : Hp} {R : List V → Hp → Prop} (h : OA K p ta σ n) (hp : H p ≠ none) (hn : n ≤ 100) (k : ∀ vs s H1, Ex H H1 → H1 s = none → vs.length = n → (∀ v ∈ vs, OddV K p H1 v) → R [.ref s] (upd H1 s (.lst vs))) : tCons (tLst ta) tNil σ H R :=
  h H hp _ fun vs H1 e1 hl hv => ⟨by rw [sizeLine_eq]; omega, fun s hs => k vs s H1 e1 hs hl hv⟩
def spOdd (K : PySem.W.Frag) : Sp := fun vs H Q _ => ∃ (p : Addr) (o m : Int), vs = [.ref p] ∧ H p = some (.lst [.int o, .int m, .int 0]) ∧ 0 ≤ o ∧ 0 ≤ m ∧ m < 2305843009213693921 ∧ ∀ (v : V) (H' : Hp), OddV K p H' v → Keep (fun c => c = p) H H' → Q v H'
theorem scOdd : FnScope ["pot"] ["pot"] (C8.fnScope (top 42)) := C8.fnScope_by (by decide +kernel)
theorem ok_odd (F : C8.Def K mg "_law_odd" (top 42) f fd) (b : Binds K fd ["pot"] []) (T : Txt3 K w mg) (cO : C8.Cal P w K mg base 2 "_law_of" spOf []) : C8.Cal P w K mg base 3 "_law_odd" (spOdd K) [] := by
  refine C8.cal0 F b .nil scOdd (fun vs H Q E h => by obtain ⟨p, o, m, rfl, _⟩ := h; rfl) (fun cdv A outer s H vs Q E hr h => ?_)
  obtain ⟨p, o, m, rfl, hp, ho, hm0, hm1, k⟩ := h
  refine ⟨_, pss_one (ps_ret (C8.pe_c cO hr (by decide) (by rfl) (pa_cons (pv 0) (pa_cons (pe_lst (pa_cons pe_non (pa_cons pe_bl (pa_cons pe_bl (pa_cons pe_str (pa_cons pe_str (pa_cons (pe_lst pa_nil) (pa_cons pe_dnewK (pa_cons (pe_tup (pa_cons pe_bl pa_nil)) (pa_cons (pe_tup (pa_cons (pe_tup pa_nil) pa_nil))
    (pa_cons (pe_un un_neg pe_int) (pa_cons (pe_op op_pow pe_int pe_int) (pa_cons (pe_lst (pa_cons pe_int pa_nil)) (pa_cons pe_str (pa_cons (pe_tup (pa_cons pe_non pa_nil)) pa_nil))))))))))))))) pa_nil)))), ?_⟩
  refine ⟨_, rfl, ?_⟩
  have st : ∀ (x : Wd), x ∈ ([[49], [], [48, 49]] : List Wd) → ∀ H, OddV K p H (.str (S x)) := fun x hx H => ⟨fun z => (by cases z), "str", .str _, .inr ⟨x, hx, rfl⟩⟩
  have l1 : (Str.ofString "1" : Str) = S [49] := by decide
  have l0 : (Str.ofString "" : Str) = S [] := by decide
  have l01 : (Str.ofString "01" : Str) = S [48, 49] := by decide
  have bl : ∀ (b : Bool) H, OddV K p H (.bl b) := fun b H => ⟨fun z => (by cases z), "bool", .bl b, .inl (by decide)⟩
  have non : ∀ H, OddV K p H .non := fun H => ⟨fun z => (by cases z), "NoneType", .non, .inl (by decide)⟩
  have s1 : ∀ H, OddV K p H (.str "1") := fun H => by
    have := st [49] (by simp) H
    rw [← l1] at this
    exact this
  have s0 : ∀ H, OddV K p H (.str "") := fun H => by
    have := st [] (by simp) H
    rw [← l0] at this
    exact this
  have s01 : ∀ H, OddV K p H (.str "01") := fun H => by
    have := st [48, 49] (by simp) H
    rw [← l01] at this
    exact this
  refine lst_arg (K := K) (p := p) (n := 14) ?_ (by rw [hp]; simp) (by decide) fun vs t H1 e1 ht hn hv => ?_
  · exact oa_cons (oe_c non) (oa_cons (oe_c (bl true)) (oa_cons (oe_c (bl false)) (oa_cons (oe_c s1) (oa_cons (oe_c s0) (oa_cons (oe_lst (fun _ => ea_nil) (by decide)) (oa_cons oe_dict (oa_cons (oe_tup (oa_cons (oe_c (bl true)) oa_nil) (by decide)) (oa_cons (oe_tup (oa_cons (oe_tup oa_nil (by decide)) oa_nil) (by decide))
      (oa_cons (oe_int (i := -1) fun _ => ev_un ev_c ru_neg) (oa_cons (oe_int (i := 10 ^ (8 : Int).toNat) fun _ => ev_op ev_c ev_c (rv_I (C := CPow) (by unfold CPow; decide))) (oa_cons (oe_lst (fun _ => ea_cons ev_c ea_nil) (by show 1 ≤ 100; decide)) (oa_cons (oe_c s01) (oa_cons (oe_tup (oa_cons (oe_c non) oa_nil) (by decide)) oa_nil)))))))))))))
  · have hp1 := e1 _ _ hp
    have tp : t ≠ p := fun z => by rw [z, hp1] at ht; cases ht
    exact ⟨p, t, o, m, vs, rfl, (upd_ne tp.symm).trans hp1, ho, hm0, hm1, upd_same, hn, tp, fun v H' hm K' => k v H' (((hv v hm).ex (ex_put ht (Ex.refl H1))).keep K') fun c u n hc => K' c u n (ex_put ht (Ex.refl H1) c u (e1 c u hc))⟩
end
end K5
set_option Elab.async false
set_option linter.all false
set_option maxRecDepth 100000
set_option maxHeartbeats 4000000
namespace K5
open PySem PySem.Spec PyProof.Rows L2 Evl Xl SX Mi
def rCatS : R2 := fun x y H Q => ∃ i j, x = V.str i ∧ y = V.str j ∧ i.length + j.length ≤ PySem.sizeLine ∧ Q (V.str (i ++ j)) H
theorem rv_cat {a b : Wd} {H : Hp} (h : a.length + b.length ≤ 100000) : RV rCatS (.str (S a)) (.str (S b)) H (.str (S (a ++ b))) := fun H1 e Q q =>
  ⟨S a, S b, rfl, rfl, by rw [S_len, S_len, sizeLine_eq]; omega, by rw [S_cat]; exact q H1 (Ex.refl H1)⟩
section
variable {P : Program} {w : World} {K : PySem.W.Frag} {mg : Str → Option Value} {base : Heap} {f : Addr} {fd : FuncData}
/-! ### deep -/
def FST : Wd := [102, 105, 114, 115, 116, 32]
def spDeep : Sp := fun vs H Q _ => ∃ (n : Nat) (z : Wd), vs = [.int n] ∧ 1 ≤ n ∧ n ≤ 40 ∧ Txt.mul (S FST) ((n : Int) - 1) = S z ∧ z.length ≤ 1000 ∧ ∀ H', Ex H H' → Q (.str (S (z ++ [49]))) H'
theorem scDeep : FnScope ["many"] ["many"] (C8.fnScope (top 44)) := C8.fnScope_by (by decide +kernel)
theorem ok_deep (F : C8.Def K mg "_law_deep" (top 44) f fd) (b : Binds K fd ["many"] []) : C8.Cal P w K mg base 1 "_law_deep" spDeep [] := by
  refine C8.cal0 F b .nil scDeep (fun vs H Q E h => by obtain ⟨n, z, rfl, _⟩ := h; rfl) (fun cdv A outer s H vs Q E hr h => ?_)
  obtain ⟨n, z, rfl, h1, h2, hz, hzl, k⟩ := h
  refine ⟨_, pss_one (ps_ret (pe_op op_add_str (pe_op Xk.op_repS pe_str (pe_op op_sub (pv 0) pe_int)) pe_str)), ?_⟩
  have l1 : (Str.ofString "first " : Str) = S FST := by decide
  have l2 : (Str.ofString "1" : Str) = S [49] := by decide
  have rr : ∀ {H : Hp}, RV Xk.rRepS (.str (S FST)) (.int ((n : Int) - 1)) H (.str (S z)) := fun {H} H1 e Q q => ⟨S FST, (n : Int) - 1, rfl, rfl, by decide, by omega, by omega, by rw [hz]; exact q H1 (Ex.refl H1)⟩
  refine s_ret (v := .str (S (z ++ [49]))) ?_ fun H1 e1 => k H1 e1
  refine ev_op (ev_op (by rw [l1]; exact ev_c) (ev_op (ev_var rfl) ev_c rv_I0) rr) (by rw [l2]; exact ev_c) (rv_cat (by simp; omega))
/-! ### wide -/
def PLUS : Wd := [112, 108, 117, 115, 32]
def wideF : Nat → Nat → Wd
  | 0, _ => [49]
  | d + 1, n => if n = 0 then [49] else PLUS ++ wideF d ((n - 1) / 2) ++ [32] ++ wideF d (n - 1 - (n - 1) / 2)
theorem wideF_len : ∀ {d n : Nat}, (wideF d n).length ≤ 7 * n + 1 := by
  intro d
  induction d with
  | zero => intro n; show 1 ≤ _; omega
  | succ d ih =>
    intro n
    unfold wideF
    split
    · show 1 ≤ _; omega
    · have h1 := @ih ((n - 1) / 2)
      have h2 := @ih (n - 1 - (n - 1) / 2)
      simp only [List.length_append, List.length_cons, List.length_nil, PLUS]
      omega
def spWide (d : Nat) : Sp := fun vs H Q _ => ∃ n : Nat, vs = [.int n] ∧ n < 2 ^ d ∧ n ≤ 1000 ∧ ∀ H', Ex H H' → Q (.str (S (wideF d n))) H'
theorem scWide : FnScope ["many"] ["many"] (C8.fnScope (top 46)) := C8.fnScope_by (by decide +kernel)
theorem ok_wide (F : C8.Def K mg "_law_wide" (top 46) f fd) (b : Binds K fd ["many"] []) : ∀ d, C8.Cal P w K mg base (d + 1) "_law_wide" (spWide d) [] := by
  have l1 : (Str.ofString "plus " : Str) = S PLUS := by decide
  have l2 : (Str.ofString "1" : Str) = S [49] := by decide
  have l3 : (Str.ofString " " : Str) = S [32] := by decide
  intro d
  induction d with
  | zero =>
    refine C8.cal0 F b .nil scWide (fun vs H Q E h => by obtain ⟨n, rfl, _⟩ := h; rfl) (fun cdv A outer s H vs Q E hr h => ?_)
    obtain ⟨n, rfl, h1, h2, k⟩ := h
    have h0 : n = 0 := by simp at h1; omega
    subst h0
    refine ⟨_, pss_cons (ps_if (pt_cmpR op_eq (pv 0) pe_int (nomark _)) (pss_one (ps_ret pe_str)) pss_nil) (pss_one ps_never), ?_⟩
    refine q_when (b := true) (et_is (et_test (ev_op (ev_var rfl) ev_c (rv_eq rfl))) (by simp)) (fun _ H1 e1 => ?_) (fun z => by cases z)
    exact s_ret (by rw [l2]; exact ev_c) fun H2 e2 => k H2 (e1.trans e2)
  | succ d ih =>
    refine C8.cal0 F b .nil scWide (fun vs H Q E h => by obtain ⟨n, rfl, _⟩ := h; rfl) (fun cdv A outer s H vs Q E hr h => ?_)
    obtain ⟨n, rfl, h1, h2, k⟩ := h
    refine ⟨_, pss_cons (ps_if (pt_cmpR op_eq (pv 0) pe_int (nomark _)) (pss_one (ps_ret pe_str)) pss_nil)
      (pss_one (ps_ret (pe_op op_add_str (pe_op op_add_str (pe_op op_add_str pe_str (C8.pe_c ih hr (Nat.le_refl _) (by rfl) (pa_cons (pe_op op_fdiv (pe_op op_sub (pv 0) pe_int) pe_int) pa_nil))) pe_str)
        (C8.pe_c ih hr (Nat.le_refl _) (by rfl) (pa_cons (pe_op op_sub (pe_op op_sub (pv 0) pe_int) (pe_op op_fdiv (pe_op op_sub (pv 0) pe_int) pe_int)) pa_nil))))), ?_⟩
    refine q_when (b := decide (n = 0)) (et_is (et_test (ev_op (ev_var rfl) ev_c (rv_eq rfl))) (decide_eq_decide.mpr ⟨fun z => by have := V.int.inj z; omega, fun z => by rw [z]; rfl⟩)) (fun hb H1 e1 => ?_) (fun hb H1 e1 => ?_)
    · have h0 : n = 0 := of_decide_eq_true hb
      have hw : wideF (d + 1) n = [49] := by unfold wideF; rw [if_pos h0]
      rw [hw] at k
      exact s_ret (by rw [l2]; exact ev_c) fun H2 e2 => k H2 (e1.trans e2)
    · have h0 : ¬ n = 0 := of_decide_eq_false hb
      have hw : wideF (d + 1) n = PLUS ++ wideF d ((n - 1) / 2) ++ [32] ++ wideF d (n - 1 - (n - 1) / 2) := by
        conv => lhs; unfold wideF
        rw [if_neg h0]
      rw [hw] at k
      have p2 : 2 ^ (d + 1) = 2 * 2 ^ d := by rw [Nat.pow_succ]; omega
      have w1 := @wideF_len d ((n - 1) / 2)
      have w2 := @wideF_len d (n - 1 - (n - 1) / 2)
      have i1 : ((n : Int) - 1) / 2 = (((n - 1) / 2 : Nat) : Int) := by omega
      have i2 : (n : Int) - 1 - (((n - 1) / 2 : Nat) : Int) = ((n - 1 - (n - 1) / 2 : Nat) : Int) := by omega
      have a1 : ∀ {G : Hp}, Ev (tOp (rI CDiv fun i j => V.int (i / j)) (tOp (rI0 fun i j => V.int (i - j)) (tVar 0) (tC (V.int 1))) (tC (V.int 2))) (start ["many"] [V.int n]) G (.int (((n - 1) / 2 : Nat) : Int)) := ev_is (ev_op (ev_op (ev_var rfl) ev_c rv_I0) ev_c (rv_I ⟨by decide, by decide⟩)) (by rw [i1])
      refine s_ret (ev_op (ev_op (ev_op (by rw [l1]; exact ev_c) (ev_call (ea_cons a1 ea_nil) fun H2 e2 Q' q E' => ⟨_, rfl, by omega, by omega, q⟩) (rv_cat (by simp [PLUS]; omega))) (by rw [l3]; exact ev_c) (rv_cat (by simp [PLUS]; omega)))
        (ev_call (ea_cons (ev_is (ev_op (ev_op (ev_var rfl) ev_c rv_I0) a1 rv_I0) (by rw [i2])) ea_nil) fun H2 e2 Q' q E' => ⟨_, rfl, by omega, by omega, q⟩) (rv_cat (by simp [PLUS]; omega))) fun H2 e2 => k H2 (e1.trans e2)
end
end K5
set_option Elab.async false
set_option linter.all false
set_option maxRecDepth 100000
set_option maxHeartbeats 4000000
namespace K5
open PySem PySem.Spec PyProof.Rows L2 Evl Xl SX Mi
def USED : List Wd := [[112, 97, 114, 116], [114, 117, 110], [102, 117, 110], [99, 97, 108, 108], [108, 101, 116], [112, 108, 117, 115], [108, 101, 115, 115], [112, 105, 99, 107], [112, 97, 105, 114], [102, 105, 114, 115, 116], [115, 101, 99, 111, 110, 100]]
def D0 : List (Wd × Nat) := [([], 1), ([10], 1), ([114, 117, 110], 1), ([114, 117, 110, 32], 1), ([114, 117, 110, 32, 49, 10], 2), ([114, 117, 110, 32, 49, 10, 114, 117, 110, 32, 49], 2), ([114, 117, 110, 32, 49, 10, 112, 97, 114, 116, 32, 102, 32, 102, 117, 110, 32, 120, 32, 120], 2), ([82, 117, 110, 32, 49], 1)]
def D1 : List (Wd × Nat) := [([112, 97, 114, 116, 32, 102, 32, 102, 117, 110, 32, 120, 32, 120], 2), ([112, 97, 114, 116, 32, 102, 32, 102, 117, 110, 32, 120, 32, 120, 10, 112, 97, 114, 116, 32, 102, 32, 102, 117, 110, 32, 120, 32, 120, 10, 114, 117, 110, 32, 49], 2), ([112, 97, 114, 116, 32, 102, 32, 102, 117, 110, 32, 120, 32, 120, 10, 10, 114, 117, 110, 32, 49], 2), ([112, 97, 114, 116, 32, 102, 32, 49, 10, 114, 117, 110, 32, 49], 1)]
def D2 : List (Wd × Nat) := [([112, 97, 114, 116, 32, 102, 32, 102, 117, 110, 32, 102, 32, 49, 10, 114, 117, 110, 32, 49], 1), ([112, 97, 114, 116, 32, 102, 32, 102, 117, 110, 32, 103, 32, 49, 10, 112, 97, 114, 116, 32, 103, 32, 102, 117, 110, 32, 120, 32, 120, 10, 114, 117, 110, 32, 49], 2), ([112, 97, 114, 116, 32, 102, 32, 102, 117, 110, 32, 120, 32, 120, 10, 114, 117, 110, 32, 108, 101, 116, 32, 102, 32, 49, 32, 102], 2)]
def D3 : List (Wd × Nat) := [([112, 97, 114, 116, 32, 102, 32, 102, 117, 110, 32, 120, 32, 120, 10, 112, 97, 114, 116, 32, 103, 32, 102, 117, 110, 32, 102, 32, 49, 10, 114, 117, 110, 32, 49], 2), ([112, 97, 114, 116, 32, 102, 32, 102, 117, 110, 32, 120, 32, 108, 101, 116, 32, 103, 32, 49, 32, 120, 10, 112, 97, 114, 116, 32, 104, 32, 102, 117, 110, 32, 120, 32, 120, 10, 112, 97, 114, 116, 32, 103, 32, 102, 117, 110, 32, 120, 32, 120, 10, 114, 117, 110, 32, 49], 3)]
def D4 : List (Wd × Nat) := [([114, 117, 110, 32, 120], 1), ([112, 97, 114, 116, 32, 102, 32, 102, 117, 110, 32, 120, 32, 121, 10, 114, 117, 110, 32, 49], 1), ([112, 97, 114, 116, 32, 102, 32, 102, 117, 110, 32, 120, 32, 121, 10, 114, 117, 110, 32, 122], 1), ([112, 97, 114, 116, 32, 102, 32, 102, 117, 110, 32, 120, 32, 99, 97, 108, 108, 32, 103, 32, 120, 10, 114, 117, 110, 32, 49], 1)]
def D5 : List (Wd × Nat) := [([112, 97, 114, 116, 32, 102, 32, 102, 117, 110, 32, 120, 32, 121, 10, 114, 117, 110, 32, 112, 108, 117, 115, 32, 49], 2), ([114, 117, 110, 32, 108, 101, 116, 32, 120, 32, 120, 32, 49], 1), ([114, 117, 110, 32, 112, 108, 117, 115, 32, 108, 101, 116, 32, 120, 32, 49, 32, 120, 32, 120], 1), ([112, 97, 114, 116, 32, 102, 32, 102, 117, 110, 32, 120, 32, 49, 10, 114, 117, 110, 32, 112, 108, 117, 115, 32, 120, 32, 49], 2)]
def D6 : List (Wd × Nat) := [([114, 117, 110, 32, 112, 108, 117, 115, 32, 32, 49, 32, 50], 1), ([32, 114, 117, 110, 32, 49], 1), ([114, 117, 110, 32, 49, 32], 1), ([114, 117, 110, 32, 49, 32, 50], 1), ([114, 117, 110, 32, 112, 108, 117, 115, 32, 49], 1), ([114, 117, 110, 32, 99, 97, 108, 108, 32, 49], 1), ([114, 117, 110, 32, 112, 105, 99, 107, 32, 49, 32, 50], 1)]
def D7 : List (Wd × Nat) := [([114, 117, 110, 32, 108, 101, 116, 32, 120, 32, 49], 1), ([114, 117, 110, 32, 102, 117, 110, 32, 120], 1), ([114, 117, 110, 32, 49, 48, 48], 1), ([114, 117, 110, 32, 45, 49, 48, 48], 1), ([114, 117, 110, 32, 48, 49], 1), ([114, 117, 110, 32, 45, 48], 1), ([114, 117, 110, 32, 43, 49], 1), ([114, 117, 110, 32, 49, 46, 48], 1)]
def D8 : List (Wd × Nat) := [([114, 117, 110, 32, 108, 101, 116, 32, 97, 98, 99, 100, 101, 102, 103, 104, 105, 32, 49, 32, 50], 1), ([114, 117, 110, 32, 108, 101, 116, 32, 49, 120, 32, 49, 32, 50], 1), ([114, 117, 110, 32, 108, 101, 116, 32, 88, 32, 49, 32, 50], 1), ([114, 117, 110, 32, 108, 101, 116, 32, 120, 95, 32, 49, 32, 50], 1), ([114, 117, 110, 32, 108, 101, 116, 32, 32, 49, 32, 50], 1)]
def R0 : List (Wd × Nat) := (USED.map fun w => ([114, 117, 110, 32, 102, 117, 110, 32] ++ w ++ [32, 49], 1)) ++ USED.map fun w => ([112, 97, 114, 116, 32] ++ w ++ [32, 102, 117, 110, 32, 120, 32, 120, 10, 114, 117, 110, 32, 49], 1)
def R1 : List (Wd × Nat) := (USED.map fun w => ([114, 117, 110, 32, 108, 101, 116, 32] ++ w ++ [32, 49, 32, 50], 1)) ++ USED.map fun w => ([114, 117, 110, 32] ++ w, 1)
def ROWS : List (Wd × Nat) := R0 ++ R1 ++ D0 ++ D1 ++ D2 ++ D3 ++ D4 ++ D5 ++ D6 ++ D7 ++ D8

/-- the tuples (text, number) at these addresses -/
def TupsR (H : Hp) : List Addr → List (Wd × Nat) → Prop
  | [], [] => True
  | t :: ts, r :: rs => H t = some (.tup [.str (S r.1), .int (r.2 : Nat)]) ∧ TupsR H ts rs
  | _, _ => False
theorem TupsR.of {H H' : Hp} (hk : ∀ c xs, H c = some (.tup xs) → H' c = some (.tup xs)) : ∀ {ts : List Addr} {rs : List (Wd × Nat)}, TupsR H ts rs → TupsR H' ts rs := by
  intro ts
  induction ts with
  | nil => intro rs h; cases rs <;> exact h
  | cons t ts ih =>
    intro rs h
    cases rs with
    | nil => exact h
    | cons r rs => exact ⟨hk _ _ h.1, ih h.2⟩
theorem TupsR.ex {H H' : Hp} (e : Ex H H') {ts : List Addr} {rs : List (Wd × Nat)} (h : TupsR H ts rs) : TupsR H' ts rs := h.of fun c xs hc => e _ _ hc
theorem TupsR.app {H : Hp} : ∀ {ts us : List Addr} {rs ss : List (Wd × Nat)}, TupsR H ts rs → TupsR H us ss → TupsR H (ts ++ us) (rs ++ ss) := by
  intro ts
  induction ts with
  | nil =>
    intro us rs ss h1 h2
    cases rs with
    | nil => exact h2
    | cons r rs => exact h1.elim
  | cons t ts ih =>
    intro us rs ss h1 h2
    cases rs with
    | nil => exact h1.elim
    | cons r rs => exact ⟨h1.1, ih h1.2 h2⟩
theorem TupsR.len {H : Hp} : ∀ {ts : List Addr} {rs : List (Wd × Nat)}, TupsR H ts rs → ts.length = rs.length := by
  intro ts
  induction ts with
  | nil => intro rs h; cases rs with | nil => rfl | cons r rs => exact h.elim
  | cons t ts ih => intro rs h; cases rs with | nil => exact h.elim | cons r rs => simp [ih h.2]
theorem TupsR.get {H : Hp} : ∀ {ts : List Addr} {rs : List (Wd × Nat)} {i : Nat} {t : Addr}, TupsR H ts rs → ts[i]? = some t → ∃ r, rs[i]? = some r ∧ H t = some (.tup [.str (S r.1), .int (r.2 : Nat)]) := by
  intro ts
  induction ts with
  | nil => intro rs i t h hi; simp at hi
  | cons a ts ih =>
    intro rs i t h hi
    cases rs with
    | nil => exact h.elim
    | cons r rs =>
      cases i with
      | zero =>
        simp at hi
        subst hi
        exact ⟨r, rfl, h.1⟩
      | succ i =>
        simp at hi
        obtain ⟨q, hq, hh⟩ := ih h.2 hi
        exact ⟨q, by simpa using hq, hh⟩
def EvR (te : TE) (σ : L2.St) (H : Hp) (rs : List (Wd × Nat)) : Prop := ∀ H0, Ex H H0 → ∀ (Q : VK), (∀ ts p H1, Ex H0 H1 → H0 p = none → TupsR H1 ts rs → H1 p = some (.lst (ts.map V.ref)) → Q (.ref p) H1) → te σ H0 Q
def EvTs (ta : TA) (σ : L2.St) (rs : List (Wd × Nat)) : Prop := ∀ H (Q : List V → Hp → Prop), (∀ ts H1, Ex H H1 → TupsR H1 ts rs → Q (ts.map V.ref) H1) → ta σ H Q
theorem tl_nil {σ : L2.St} : EvTs tNil σ [] := fun H Q q => q [] H (Ex.refl H) trivial
theorem tl_cons {σ : L2.St} {x : Str} {z : Wd} {n : Int} {m : Nat} {tr : TA} {rs : List (Wd × Nat)} (hx : x = S z) (hn : n = (m : Int)) (h : EvTs tr σ rs) : EvTs (tCons (tTup (tCons (tC (.str x)) (tCons (tC (.int n)) tNil))) tr) σ ((z, m) :: rs) := by
  subst hx hn
  intro H Q q
  refine ⟨by show 2 ≤ sizeLine; rw [sizeLine_eq]; omega, fun p hp => h _ _ fun ts H1 e1 ht => ?_⟩
  exact q (p :: ts) H1 ((ex_put hp (Ex.refl H)).trans e1) ⟨e1 _ _ upd_same, ht⟩
theorem evr_lst {ta : TA} {σ : L2.St} {H : Hp} {rs : List (Wd × Nat)} (h : EvTs ta σ rs) (hn : rs.length ≤ 1000) : EvR (tLst ta) σ H rs := fun H0 e0 Q q =>
  h H0 _ fun ts H1 e1 ht => ⟨by rw [List.length_map, ht.len, sizeLine_eq]; omega, fun p hp => q ts p _ (e1.trans (ex_put hp (Ex.refl H1))) (fresh_back e1 hp) (ht.ex (ex_put hp (Ex.refl H1))) upd_same⟩
theorem evr_cat {K : PySem.W.Frag} {ta tb : TE} {σ : L2.St} {H : Hp} {rs ss : List (Wd × Nat)} (ha : EvR ta σ H rs) (hb : EvR tb σ H ss) (h1 : rs.length ≤ 1000) (h2 : ss.length ≤ 1000) : EvR (tOp rCat ta tb) σ H (rs ++ ss) := fun H0 e0 Q q =>
  ha H0 e0 _ fun ts p H1 e1 hp t1 x1 => hb H1 (e0.trans e1) _ fun us r H2 e2 hr t2 x2 => ⟨_, _, _, _, rfl, rfl, e2 _ _ x1, x2, by rw [List.length_map, t1.len, List.length_map, t2.len, sizeLine_eq]; omega, fun l hl => by
    rw [← List.map_append]
    exact q (ts ++ us) l _ ((e1.trans e2).trans (ex_put hl (Ex.refl H2))) (fresh_back (e1.trans e2) hl) (((t1.ex e2).app t2).ex (ex_put hl (Ex.refl H2))) upd_same⟩
theorem evr_lc {K : PySem.W.Frag} {u : Addr} {ws : List Wd} {g : Wd → Wd} {te : TE} {H : Hp} {a1 a2 : Option V} (hu : H u = some (.lst (ws.map fun x => .str (S x)))) (ht : ∀ w ∈ ws, ∀ H', Ev te ([some (.ref u), a1, some (.str (S w))] : L2.St) H' (.str (S (g w)))) (hn : ws.length ≤ 1000) :
    EvR (tLc (iList K (tVar 0)) (gName 2) tYes (tTup (tCons te (tCons (tC (.int 1)) tNil))) [2]) ([some (.ref u), a1, a2] : L2.St) H (ws.map fun w => (g w, 1)) := by
  intro H0 e0 Q q
  have hu0 := e0 _ _ hu
  refine ⟨_, rfl, u, rfl, ⟨_, sq_of hu0⟩, fun D hD => ?_⟩
  refine comp_walk (body := fun x H' Nx => gName 2 x (wipe ([some (.ref u), a1, a2] : L2.St) [2]) H' fun σ2 H2 => wipe σ2 [2] = wipe ([some (.ref u), a1, a2] : L2.St) [2] ∧ tYes σ2 H2 fun b H3 => if b = true then tTup (tCons te (tCons (tC (.int 1)) tNil)) σ2 H3 fun y H4 => ∃ acc, H4 D = some (.lst acc) ∧ acc.length < sizeLine ∧ Nx (upd H4 D (.lst (acc ++ [y]))) else Nx H3)
    (walk_list (K := K) (a := u) (xs := ws.map fun x => .str (S x))) (fun i G => Ex H0 G ∧ ∃ ts, TupsR G ts ((ws.take i).map fun w => (g w, 1)) ∧ G D = some (.lst (ts.map V.ref))) ⟨ex_put hD (Ex.refl H0), [], by simp [TupsR], upd_same⟩ (fun i G _ hp => sq_of (hp.1 _ _ hu0)) (fun i G x G' hi hp hy => ?_) (fun G hp => ?_)
  · obtain ⟨rfl, hx⟩ := hy
    obtain ⟨eG, ts, ht2, hd⟩ := hp
    rw [List.getElem?_map] at hx
    cases z : ws[i]? with
    | none => rw [z] at hx; cases hx
    | some w =>
      rw [z] at hx
      obtain rfl : V.str (S w) = x := Option.some.inj hx
      refine ⟨rfl, ?_⟩
      refine ht w (List.mem_of_getElem? z) G' G' (Ex.refl G') _ fun H1 e1 => ⟨by show 2 ≤ sizeLine; rw [sizeLine_eq]; omega, fun p hp => ?_⟩
      have hl := ht2.len
      have hpD : p ≠ D := fun q => by rw [q, e1 _ _ hd] at hp; cases hp
      have e2 := e1.trans (ex_put (o := .tup [.str (S (g w)), .int 1]) hp (Ex.refl H1))
      have hlt : ts.length ≤ 1000 := by rw [hl, List.length_map, List.length_take]; omega
      refine ⟨ts.map V.ref, (upd_ne hpD.symm).trans (e1 _ _ hd), by rw [List.length_map, sizeLine_eq]; omega, ex_put hD (eG.trans e2), ts ++ [p], ?_, by rw [upd_same, List.map_append]; rfl⟩
      rw [List.take_add_one, z, List.map_append]
      refine TupsR.of (H := upd H1 p (.tup [.str (S (g w)), .int 1])) (fun c xs hc => ?_) ((ht2.ex e2).app ⟨upd_same, trivial⟩)
      have : c ≠ D := fun q => by rw [q, upd_ne hpD.symm, e1 _ _ hd] at hc; cases hc
      rw [upd_ne this]
      exact hc
  · obtain ⟨eG, ts, ht2, hd⟩ := hp
    rw [List.length_map, List.take_length] at ht2
    exact q ts D G eG hD ht2 hd
theorem q_ext {K : PySem.W.Frag} {He H : Hp} {p : Addr} {ts : List Addr} {rs ss : List (Wd × Nat)} {te : TE} {σ : L2.St} {D : Ends} {tz : TS} (hσ : σ[1]? = some (some (.ref p))) (hp0 : He p = none) (e : Ex He H) (ht : TupsR H ts rs) (hp : H p = some (.lst (ts.map V.ref))) (h : EvR te σ H ss) (h1 : rs.length ≤ 1000) (h2 : ss.length ≤ 1000)
    (k : ∀ us H1, Ex He H1 → TupsR H1 us (rs ++ ss) → H1 p = some (.lst (us.map V.ref)) → tz D σ H1) : tSeq (tDrop (tBM K "list" rExtend (tVar 1) (tCons te tNil))) tz D σ H := by
  refine ⟨_, hσ, .inl ⟨rfl, _, SqL.of hp⟩, h H (Ex.refl H) _ fun us r H1 e1 hr hu hx => ?_⟩
  refine ⟨p, r, _, _, rfl, rfl, e1 _ _ hp, hx, by rw [List.length_map, List.length_map, ht.len, hu.len, sizeLine_eq]; omega, ?_⟩
  rw [← List.map_append]
  refine k (ts ++ us) _ (ex_put hp0 (e.trans e1)) (((ht.ex e1).app hu).of fun c xs hc => ?_) upd_same
  have : c ≠ p := fun q => by rw [q, e1 _ _ hp] at hc; cases hc
  rw [upd_ne this]
  exact hc
theorem q_setR {te : TE} {σ : L2.St} {H : Hp} {rs : List (Wd × Nat)} {D : Ends} {tz : TS} {i : Nat} (h : EvR te σ H rs) (k : ∀ ts p H1, Ex H H1 → H p = none → TupsR H1 ts rs → H1 p = some (.lst (ts.map V.ref)) → tz D (σ.set i (some (.ref p))) H1) : tSeq (tAsg te (gName i)) tz D σ H :=
  h H (Ex.refl H) _ fun ts p H1 e hp ht hx => k ts p H1 e hp ht hx
theorem pe_row {X : Cx} {s : Str} {n : Int} {j1 j2 k : Nat} {p1 p2 p3 : Pos} : PE X (.Tuple [.Constant (.str s) j1 p1, .Constant (.int n) j2 p2] k p3) (tTup (tCons (tC (.str s)) (tCons (tC (.int n)) tNil))) := pe_tup (pa_cons pe_str (pa_cons pe_int pa_nil))
theorem ev_lit {s : Str} {x : Wd} {σ : L2.St} {H : Hp} (h : s = S x) : Ev (tC (.str s)) σ H (.str (S x)) := by rw [h]; exact ev_c
section
variable {P : Program} {w : World} {K : PySem.W.Frag} {mg : Str → Option Value} {base : Heap} {f : Addr} {fd : FuncData}
def spRows : Sp := fun vs H Q _ => vs = [] ∧ ∀ ts p H', Ex H H' → H p = none → TupsR H' ts ROWS → H' p = some (.lst (ts.map V.ref)) → Q (.ref p) H'
abbrev nRw : List Str := ["used", "rows", "word"]
theorem scRw : FnScope nRw [] (C8.fnScope (top 47)) := C8.fnScope_by (by decide +kernel)
theorem ok_rows (F : C8.Def K mg "_law_rows" (top 47) f fd) : FnOk P w K mg base C8.CX0 1 f fd [] spRows := by
  refine C8.fn0 F.fn scRw (fun vs H Q E h => by obtain ⟨rfl, _⟩ := h; rfl) (fun cdv A outer s H vs Q E hr h => ?_)
  obtain ⟨rfl, k⟩ := h
  refine ⟨_, pss_cons (ps_set (i := 0) scRw.nd rfl (Or.inl rfl) (pe_lst (pa_cons pe_str (pa_cons pe_str (pa_cons pe_str (pa_cons pe_str (pa_cons pe_str (pa_cons pe_str (pa_cons pe_str (pa_cons pe_str (pa_cons pe_str (pa_cons pe_str (pa_cons pe_str pa_nil)))))))))))))
    (pss_cons (ps_set (i := 1) scRw.nd rfl (Or.inl rfl) (pe_op op_cat (pe_lc (own := [("word", 2)]) (g := gName 2) (tt := tYes) (te := tTup (tCons (tOp rCatS (tOp rCatS (tC (.str "run fun ")) (tVar 2)) (tC (.str " 1"))) (tCons (tC (.int 1)) tNil))) rfl scRw.nd (pi_list (pv 0)) (blkOk_by (N := nRw) (sc := C8.fnScope (top 47)) (by decide +kernel)) (fun _ _ _ _ _ => pg_name (i := 2) scRw.nd rfl (Or.inl rfl)) (fun _ _ _ _ _ => pts_nil) (fun _ _ _ _ _ => pe_tup (pa_cons (pe_op op_add_str (pe_op op_add_str pe_str (pv 2)) pe_str) (pa_cons pe_int pa_nil)))) (pe_lc (own := [("word", 2)]) (g := gName 2) (tt := tYes) (te := tTup (tCons (tOp rCatS (tOp rCatS (tC (.str "part ")) (tVar 2)) (tC (.str " fun x x\nrun 1"))) (tCons (tC (.int 1)) tNil))) rfl scRw.nd (pi_list (pv 0)) (blkOk_by (N := nRw) (sc := C8.fnScope (top 47)) (by decide +kernel)) (fun _ _ _ _ _ => pg_name (i := 2) scRw.nd rfl (Or.inl rfl)) (fun _ _ _ _ _ => pts_nil) (fun _ _ _ _ _ => pe_tup (pa_cons (pe_op op_add_str (pe_op op_add_str pe_str (pv 2)) pe_str) (pa_cons pe_int pa_nil))))))
    (pss_cons ((ps_expr (pe_bm PySem.F.plainAttrs_list PySem.F.slot_list_extend PySem.F.type_list_extend mt_extend (pv 1) (pa_cons (pe_op op_cat (pe_lc (own := [("word", 2)]) (g := gName 2) (tt := tYes) (te := tTup (tCons (tOp rCatS (tOp rCatS (tC (.str "run let ")) (tVar 2)) (tC (.str " 1 2"))) (tCons (tC (.int 1)) tNil))) rfl scRw.nd (pi_list (pv 0)) (blkOk_by (N := nRw) (sc := C8.fnScope (top 47)) (by decide +kernel)) (fun _ _ _ _ _ => pg_name (i := 2) scRw.nd rfl (Or.inl rfl)) (fun _ _ _ _ _ => pts_nil) (fun _ _ _ _ _ => pe_tup (pa_cons (pe_op op_add_str (pe_op op_add_str pe_str (pv 2)) pe_str) (pa_cons pe_int pa_nil)))) (pe_lc (own := [("word", 2)]) (g := gName 2) (tt := tYes) (te := tTup (tCons (tOp rCatS (tC (.str "run ")) (tVar 2)) (tCons (tC (.int 1)) tNil))) rfl scRw.nd (pi_list (pv 0)) (blkOk_by (N := nRw) (sc := C8.fnScope (top 47)) (by decide +kernel)) (fun _ _ _ _ _ => pg_name (i := 2) scRw.nd rfl (Or.inl rfl)) (fun _ _ _ _ _ => pts_nil) (fun _ _ _ _ _ => pe_tup (pa_cons (pe_op op_add_str pe_str (pv 2)) (pa_cons pe_int pa_nil))))) pa_nil))))
    (pss_cons ((ps_expr (pe_bm PySem.F.plainAttrs_list PySem.F.slot_list_extend PySem.F.type_list_extend mt_extend (pv 1) (pa_cons (pe_lst (pa_cons pe_row (pa_cons pe_row (pa_cons pe_row (pa_cons pe_row (pa_cons pe_row (pa_cons pe_row (pa_cons pe_row (pa_cons pe_row pa_nil))))))))) pa_nil))))
    (pss_cons ((ps_expr (pe_bm PySem.F.plainAttrs_list PySem.F.slot_list_extend PySem.F.type_list_extend mt_extend (pv 1) (pa_cons (pe_lst (pa_cons pe_row (pa_cons pe_row (pa_cons pe_row (pa_cons pe_row pa_nil))))) pa_nil))))
    (pss_cons ((ps_expr (pe_bm PySem.F.plainAttrs_list PySem.F.slot_list_extend PySem.F.type_list_extend mt_extend (pv 1) (pa_cons (pe_lst (pa_cons pe_row (pa_cons pe_row (pa_cons pe_row pa_nil)))) pa_nil))))
    (pss_cons ((ps_expr (pe_bm PySem.F.plainAttrs_list PySem.F.slot_list_extend PySem.F.type_list_extend mt_extend (pv 1) (pa_cons (pe_lst (pa_cons pe_row (pa_cons pe_row pa_nil))) pa_nil))))
    (pss_cons ((ps_expr (pe_bm PySem.F.plainAttrs_list PySem.F.slot_list_extend PySem.F.type_list_extend mt_extend (pv 1) (pa_cons (pe_lst (pa_cons pe_row (pa_cons pe_row (pa_cons pe_row (pa_cons pe_row pa_nil))))) pa_nil))))
    (pss_cons ((ps_expr (pe_bm PySem.F.plainAttrs_list PySem.F.slot_list_extend PySem.F.type_list_extend mt_extend (pv 1) (pa_cons (pe_lst (pa_cons pe_row (pa_cons pe_row (pa_cons pe_row (pa_cons pe_row pa_nil))))) pa_nil))))
    (pss_cons ((ps_expr (pe_bm PySem.F.plainAttrs_list PySem.F.slot_list_extend PySem.F.type_list_extend mt_extend (pv 1) (pa_cons (pe_lst (pa_cons pe_row (pa_cons pe_row (pa_cons pe_row (pa_cons pe_row (pa_cons pe_row (pa_cons pe_row (pa_cons pe_row pa_nil)))))))) pa_nil))))
    (pss_cons ((ps_expr (pe_bm PySem.F.plainAttrs_list PySem.F.slot_list_extend PySem.F.type_list_extend mt_extend (pv 1) (pa_cons (pe_lst (pa_cons pe_row (pa_cons pe_row (pa_cons pe_row (pa_cons pe_row (pa_cons pe_row (pa_cons pe_row (pa_cons pe_row (pa_cons pe_row pa_nil))))))))) pa_nil))))
    (pss_cons ((ps_expr (pe_bm PySem.F.plainAttrs_list PySem.F.slot_list_extend PySem.F.type_list_extend mt_extend (pv 1) (pa_cons (pe_lst (pa_cons pe_row (pa_cons pe_row (pa_cons pe_row (pa_cons pe_row (pa_cons pe_row pa_nil)))))) pa_nil))))
    (pss_one (ps_ret (pv 1)))))))))))))), ?_⟩
  have hb : ∀ w ∈ USED, w.length ≤ 10 := by decide
  refine q_asgL (xs := USED.map fun x => .str (S x)) (el_lst (ea_cons (ev_lit (by decide)) (ea_cons (ev_lit (by decide)) (ea_cons (ev_lit (by decide)) (ea_cons (ev_lit (by decide)) (ea_cons (ev_lit (by decide)) (ea_cons (ev_lit (by decide)) (ea_cons (ev_lit (by decide)) (ea_cons (ev_lit (by decide)) (ea_cons (ev_lit (by decide)) (ea_cons (ev_lit (by decide)) (ea_cons (ev_lit (by decide)) ea_nil))))))))))) (by decide)) fun u H1 hu0 e1 hu => ?_
  refine q_setR (rs := R0) ?_ fun t0 p H2 e2 hp0 T0 x0 => ?_
  · exact evr_cat (K := K) (evr_lc (K := K) hu (fun w hw H' => ev_op (ev_op (ev_lit (by decide)) (ev_var rfl) (rv_cat (by have := hb w hw; simp; omega))) (ev_lit (by decide)) (rv_cat (by have := hb w hw; simp; omega))) (by decide))
      (evr_lc (K := K) hu (fun w hw H' => ev_op (ev_op (ev_lit (by decide)) (ev_var rfl) (rv_cat (by have := hb w hw; simp; omega))) (ev_lit (by decide)) (rv_cat (by have := hb w hw; simp; omega))) (by decide)) (by decide) (by decide)
  refine q_ext (ss := R1) rfl hp0 e2 T0 x0 ?_ (by decide) (by decide) fun t1 H3 e3 T1 x1 => ?_
  · exact evr_cat (K := K) (evr_lc (K := K) (e2 _ _ hu) (fun w hw H' => ev_op (ev_op (ev_lit (by decide)) (ev_var rfl) (rv_cat (by have := hb w hw; simp; omega))) (ev_lit (by decide)) (rv_cat (by have := hb w hw; simp; omega))) (by decide))
      (evr_lc (K := K) (e2 _ _ hu) (fun w hw H' => ev_op (ev_lit (by decide)) (ev_var rfl) (rv_cat (by have := hb w hw; simp; omega))) (by decide)) (by decide) (by decide)
  refine q_ext (ss := D0) rfl hp0 e3 T1 x1 (evr_lst (tl_cons (by decide) rfl (tl_cons (by decide) rfl (tl_cons (by decide) rfl (tl_cons (by decide) rfl (tl_cons (by decide) rfl (tl_cons (by decide) rfl (tl_cons (by decide) rfl (tl_cons (by decide) rfl tl_nil)))))))) (by decide)) (by decide) (by decide) fun t2 H4 e4 T2 x2 => ?_
  refine q_ext (ss := D1) rfl hp0 e4 T2 x2 (evr_lst (tl_cons (by decide) rfl (tl_cons (by decide) rfl (tl_cons (by decide) rfl (tl_cons (by decide) rfl tl_nil)))) (by decide)) (by decide) (by decide) fun t3 H5 e5 T3 x3 => ?_
  refine q_ext (ss := D2) rfl hp0 e5 T3 x3 (evr_lst (tl_cons (by decide) rfl (tl_cons (by decide) rfl (tl_cons (by decide) rfl tl_nil))) (by decide)) (by decide) (by decide) fun t4 H6 e6 T4 x4 => ?_
  refine q_ext (ss := D3) rfl hp0 e6 T4 x4 (evr_lst (tl_cons (by decide) rfl (tl_cons (by decide) rfl tl_nil)) (by decide)) (by decide) (by decide) fun t5 H7 e7 T5 x5 => ?_
  refine q_ext (ss := D4) rfl hp0 e7 T5 x5 (evr_lst (tl_cons (by decide) rfl (tl_cons (by decide) rfl (tl_cons (by decide) rfl (tl_cons (by decide) rfl tl_nil)))) (by decide)) (by decide) (by decide) fun t6 H8 e8 T6 x6 => ?_
  refine q_ext (ss := D5) rfl hp0 e8 T6 x6 (evr_lst (tl_cons (by decide) rfl (tl_cons (by decide) rfl (tl_cons (by decide) rfl (tl_cons (by decide) rfl tl_nil)))) (by decide)) (by decide) (by decide) fun t7 H9 e9 T7 x7 => ?_
  refine q_ext (ss := D6) rfl hp0 e9 T7 x7 (evr_lst (tl_cons (by decide) rfl (tl_cons (by decide) rfl (tl_cons (by decide) rfl (tl_cons (by decide) rfl (tl_cons (by decide) rfl (tl_cons (by decide) rfl (tl_cons (by decide) rfl tl_nil))))))) (by decide)) (by decide) (by decide) fun t8 H10 e10 T8 x8 => ?_
  refine q_ext (ss := D7) rfl hp0 e10 T8 x8 (evr_lst (tl_cons (by decide) rfl (tl_cons (by decide) rfl (tl_cons (by decide) rfl (tl_cons (by decide) rfl (tl_cons (by decide) rfl (tl_cons (by decide) rfl (tl_cons (by decide) rfl (tl_cons (by decide) rfl tl_nil)))))))) (by decide)) (by decide) (by decide) fun t9 H11 e11 T9 x9 => ?_
  refine q_ext (ss := D8) rfl hp0 e11 T9 x9 (evr_lst (tl_cons (by decide) rfl (tl_cons (by decide) rfl (tl_cons (by decide) rfl (tl_cons (by decide) rfl (tl_cons (by decide) rfl tl_nil))))) (by decide)) (by decide) (by decide) fun t10 H12 e12 T10 x10 => ?_
  exact s_ret (ev_var rfl) fun H' e' => k t10 p H' ((e1.trans e12).trans e') (fresh_back e1 hp0) (T10.ex e') (e' _ _ x10)
end
end K5
set_option Elab.async false
set_option linter.all false
set_option maxRecDepth 100000
set_option maxHeartbeats 4000000
namespace K5
open PySem PySem.Spec PyProof.Rows L2 Evl Xl SX Mi
/-! ### what holds while tables grow -/
abbrev TT1 (P : Addr) (H : Hp) : Prop := LamX.Tabs [(P, qn)] H
def EvN (P : Addr) (te : TE) (σ : L2.St) (H : Hp) (v : V) : Prop := ∀ H1, LamX.ExtN H H1 → TT1 P H1 → ∀ Q : VK, (∀ H2, LamX.ExtN H1 H2 → TT1 P H2 → Q v H2) → te σ H1 Q
def EvTN (P : Addr) (tt : TT) (σ : L2.St) (H : Hp) (b : Bool) : Prop := ∀ H1, LamX.ExtN H H1 → TT1 P H1 → ∀ Q : Bool → Hp → Prop, (∀ H2, LamX.ExtN H1 H2 → TT1 P H2 → Q b H2) → tt σ H1 Q
theorem xn_refl (H : Hp) : LamX.ExtN H H := fun _ _ h _ => h
theorem xn_trans {H H1 H2 : Hp} (a : LamX.ExtN H H1) (b : LamX.ExtN H1 H2) : LamX.ExtN H H2 := fun c o h n => b c o (a c o h n) n
theorem xn_lst {H H1 : Hp} {p : Addr} {xs : List V} (a : LamX.ExtN H H1) (h : H p = some (.lst xs)) : H1 p = some (.lst xs) := a _ _ h fun _ z => by cases z
section
variable {P : Addr} {σ : L2.St} {H : Hp} {K : PySem.W.Frag}
theorem en_of {te : TE} {v : V} (h : ∀ H1, LamX.ExtN H H1 → Ev te σ H1 v) : EvN P te σ H v := fun H1 e t Q q => h H1 e H1 (Ex.refl H1) _ fun H2 e2 => q H2 (extN_of e2) (tabs_ex t e2)
theorem en_num {ta : TE} {text : Wd} {E : XK} (ha : ∀ H1, LamX.ExtN H H1 → Ev ta σ H1 (.str (S text))) (hl : text.length ≤ 900) : EvN P (tCall (spNum K P) [] E (tCons ta tNil)) σ H (numV (readProg text)) := fun H1 e t Q q =>
  ha H1 e H1 (Ex.refl H1) _ fun H2 e2 => ⟨_, rfl, tabs_ex t e2, .inr ⟨text, rfl, hl, fun H3 e3 t3 => q H3 (xn_trans (extN_of e2) e3) t3⟩⟩
theorem en_numB {ta : TE} {x : V} {T : String} {E : XK} (ha : ∀ H1, LamX.ExtN H H1 → Ev ta σ H1 x) (hT : TyB K H x T) (hn : T ≠ "str") : EvN P (tCall (spNum K P) [] E (tCons ta tNil)) σ H (.int 0) := fun H1 e t Q q =>
  ha H1 e H1 (Ex.refl H1) _ fun H2 e2 => ⟨_, rfl, tabs_ex t e2, .inl ⟨T, TyB_ex (TyB_extN hT e) e2, hn, fun H3 e3 t3 => q H3 (xn_trans (extN_of e2) e3) t3⟩⟩
theorem en_op {ta tb : TE} {x y z : V} {r : R2} (ha : EvN P ta σ H x) (hb : EvN P tb σ H y) (hr : ∀ G, RV r x y G z) : EvN P (tOp r ta tb) σ H z := fun H1 e t Q q =>
  ha H1 e t _ fun H2 e2 t2 => hb H2 (xn_trans e e2) t2 _ fun H3 e3 t3 => hr H3 H3 (Ex.refl H3) _ fun H4 e4 => q H4 (xn_trans (xn_trans e2 e3) (extN_of e4)) (tabs_ex t3 e4)
theorem en_isN {te : TE} {x : V} (h : EvN P te σ H x) : EvN P (tIsN te) σ H (.bl (decide (x = .non))) := fun H1 e t Q q => h H1 e t _ fun H2 e2 t2 => q H2 e2 t2
theorem en_notN {te : TE} {x : V} (h : EvN P te σ H x) : EvN P (tNotN te) σ H (.bl (!decide (x = .non))) := fun H1 e t Q q => h H1 e t _ fun H2 e2 t2 => q H2 e2 t2
theorem etn_B {te : TE} {b : Bool} (h : EvN P te σ H (.bl b)) : EvTN P (tB te) σ H b := fun H1 e t Q q => h H1 e t _ fun H2 e2 t2 => ⟨b, rfl, q H2 e2 t2⟩
theorem etn_is {tt : TT} {a b : Bool} (h : EvTN P tt σ H a) (e : a = b) : EvTN P tt σ H b := e ▸ h
theorem en_is {te : TE} {a b : V} (h : EvN P te σ H a) (e : a = b) : EvN P te σ H b := e ▸ h
theorem etn_or {t u : TT} {a b : Bool} (h : EvTN P t σ H a) (h2 : a = false → EvTN P u σ H b) : EvTN P (tOr t u) σ H (a || b) := fun H1 e tt Q q => h H1 e tt _ fun H2 e2 t2 => by
  cases a with
  | true => exact q H2 e2 t2
  | false => exact h2 rfl H2 (xn_trans e e2) t2 _ fun H3 e3 t3 => q H3 (xn_trans e2 e3) t3
theorem etn_and {t u : TT} {a b : Bool} (h : EvTN P t σ H a) (h2 : a = true → EvTN P u σ H b) : EvTN P (tAnd t u) σ H (a && b) := fun H1 e tt Q q => h H1 e tt _ fun H2 e2 t2 => by
  cases a with
  | false => exact q H2 e2 t2
  | true => exact h2 rfl H2 (xn_trans e e2) t2 _ fun H3 e3 t3 => q H3 (xn_trans e2 e3) t3
theorem etn_not {t : TT} {a : Bool} (h : EvTN P t σ H a) : EvTN P (tNot t) σ H (!a) := fun H1 e tt Q q => h H1 e tt _ fun H2 e2 t2 => q H2 e2 t2
theorem q_whenN {t : TT} {D : Ends} {tu tz : TS} {b : Bool} (ht : TT1 P H) (h : EvTN P t σ H b) (h1 : b = true → ∀ H1, LamX.ExtN H H1 → TT1 P H1 → tu { nx := tz D, rt := D.rt, bk := D.bk, ct := D.ct } σ H1) (h2 : b = false → ∀ H1, LamX.ExtN H H1 → TT1 P H1 → tz D σ H1) : tSeq (tIfS t tu tNext) tz D σ H :=
  h H (xn_refl H) ht _ fun H1 e t1 => by
    cases b with
    | true => exact h1 rfl H1 e t1
    | false => exact h2 rfl H1 e t1
theorem s_whenN {t : TT} {D : Ends} {tu : TS} {b : Bool} (ht : TT1 P H) (h : EvTN P t σ H b) (h1 : b = true → ∀ H1, LamX.ExtN H H1 → TT1 P H1 → tu D σ H1) (h2 : b = false → ∀ H1, LamX.ExtN H H1 → TT1 P H1 → D.nx σ H1) : tIfS t tu tNext D σ H :=
  h H (xn_refl H) ht _ fun H1 e t1 => by
    cases b with
    | true => exact h1 rfl H1 e t1
    | false => exact h2 rfl H1 e t1
end
def errN (x : Wd) : Option Nat := match readProg x with
  | .error e => some e
  | .ok _ => none
def onV : Option Nat → V
  | some e => .int (e : Nat)
  | none => .non
theorem numV_eq {x : Wd} {o : Option Nat} (h : errN x = o) : numV (readProg x) = onV o := by
  subst h
  unfold errN numV
  cases readProg x <;> rfl
end K5
set_option Elab.async false
set_option linter.all false
set_option maxRecDepth 100000
set_option maxHeartbeats 4000000
namespace K5
open PySem PySem.Spec PyProof.Rows L2 Evl Xl SX Mi
def rStrI : List V → Hp → VK → Prop := fun xs H Q => ∃ i, xs = [V.int i] ∧ i.natAbs.log2 < 1920 ∧ Q (V.str (PySem.Str.ofString (toString i))) H
theorem etn_test {P : Addr} {σ : L2.St} {H : Hp} {te : TE} {b : Bool} (h : EvN P te σ H (.bl b)) : EvTN P (tTest te) σ H b := fun H1 e t Q q => h H1 e t _ fun H2 e2 t2 => ⟨b, rfl, q H2 e2 t2⟩
theorem etN_none {P : Addr} {σ : L2.St} {H : Hp} {K : PySem.W.Frag} {ta : TE} {text : Wd} {E : XK} (ha : ∀ H1, LamX.ExtN H H1 → Ev ta σ H1 (.str (S text))) (hl : text.length ≤ 900) (h : errN text = none) : EvTN P (tB (tNotN (tCall (spNum K P) [] E (tCons ta tNil)))) σ H false :=
  etn_B (en_is (en_notN (en_num ha hl)) (by rw [numV_eq h]; simp [onV]))
theorem etN_ne {P : Addr} {σ : L2.St} {H : Hp} {K : PySem.W.Frag} {ta : TE} {text : Wd} {E : XK} {n : Nat} {i : Int} (ha : ∀ H1, LamX.ExtN H H1 → Ev ta σ H1 (.str (S text))) (hl : text.length ≤ 900) (h : errN text = some n) (hi : i = (n : Int)) : EvTN P (tTest (tOp rNe (tCall (spNum K P) [] E (tCons ta tNil)) (tC (.int i)))) σ H false :=
  etn_test (en_is (en_op (en_is (en_num ha hl) (numV_eq h)) (en_of fun _ _ => ev_c) fun G => rv_ne rfl) (by subst hi; simp [onV]))
theorem el_catL {ta tb : TE} {σ : L2.St} {H : Hp} {xs ys : List V} (ha : EvL ta σ H xs) (hb : EvL tb σ H ys) (hl : xs.length + ys.length ≤ 1000) : EvL (tOp rCat ta tb) σ H (xs ++ ys) := fun H1 e Q q =>
  ha H1 e _ fun p H2 hp e2 hx => hb H2 (e.trans e2) _ fun r H3 hr e3 hy => ⟨p, r, xs, ys, rfl, rfl, e3 _ _ hx, hy, by rw [sizeLine_eq]; omega, fun l hl => q l _ (fresh_back (e2.trans e3) hl) ((e2.trans e3).trans (ex_put hl (Ex.refl H3))) upd_same⟩
theorem el_catV {ta tb : TE} {σ : L2.St} {H : Hp} {xs ys : List V} {p : Addr} (ha : Ev ta σ H (.ref p)) (hp : H p = some (.lst xs)) (hb : EvL tb σ H ys) (hl : xs.length + ys.length ≤ 1000) : EvL (tOp rCat ta tb) σ H (xs ++ ys) := fun H1 e Q q =>
  ha H1 e _ fun H2 e2 => hb H2 (e.trans e2) _ fun r H3 hr e3 hy => ⟨p, r, xs, ys, rfl, rfl, e3 _ _ (e2 _ _ (e _ _ hp)), hy, by rw [sizeLine_eq]; omega, fun l hl => q l _ (fresh_back (e2.trans e3) hl) ((e2.trans e3).trans (ex_put hl (Ex.refl H3))) upd_same⟩
def rJoin (K : PySem.W.Frag) : V → List V → Hp → VK → Prop := fun x xs H Q => ∃ a p ys, x = V.str a ∧ xs = [V.ref p] ∧ (SqL K H p (List.map V.str ys) ∨ SqT K H p (List.map V.str ys)) ∧ (List.map (fun x => x.length) ys).sum + ys.length * a.length ≤ 16777216 ∧ Q (V.str (PySem.Txt.join a ys)) H
theorem ev_join {K : PySem.W.Frag} {to te : TE} {σ : L2.St} {H : Hp} {a : Wd} {ws : List Wd} (ho : Ev to σ H (.str (S a))) (he : EvL te σ H (ws.map fun x => .str (S x))) (hs : (ws.map (·.length)).sum + ws.length * a.length ≤ 10000) : Ev (tM1 (rJoin K) to te) σ H (.str (S (TL.joinL a ws))) := fun H1 e Q q =>
  ho H1 e _ fun H2 e2 => ⟨⟨_, rfl⟩, he H2 (e.trans e2) _ fun p H3 hp e3 hx => ⟨S a, p, ws.map S, rfl, rfl, .inl (by rw [List.map_map]; exact sq_of hx), by rw [lens, S_len, List.length_map]; exact Nat.le_trans hs (by decide), by rw [join_S]; exact q H3 (e2.trans e3)⟩⟩
theorem ev_slS {te : TE} {σ : L2.St} {H : Hp} {a : Wd} (h : Ev te σ H (.str (S a))) (ha : a ≠ []) (hl : a.length ≤ 10000) : Ev (tSl C8.rSlX te tNoPart (tPart (tUn (rU fun i => V.int (-i)) (tC (V.int 1))))) σ H (.str (S (a.take (a.length - 1)))) := fun H1 e Q q =>
  h H1 e _ fun H2 e2 => (eo_none : EvO tNoPart σ H none) H2 (e.trans e2) _ fun H3 e3 => (eo_some (ev_un ev_c ru_neg) : EvO _ σ H (some (-1))) H3 ((e.trans e2).trans e3) _ fun H4 e4 => ⟨S a, rfl, by rw [S_len, sizeLine_eq]; omega, by rw [slice_butlast ha]; exact q H4 ((e2.trans e3).trans e4)⟩
theorem xn_put {H H4 : Hp} {D : Addr} {o : HO} (hD : H D = none) (e : LamX.ExtN H H4) : LamX.ExtN H (upd H4 D o) := fun c u hc n => by
  have : c ≠ D := fun z => by rw [z, hD] at hc; cases hc
  rw [upd_ne this]
  exact e c u hc n
theorem tabs_put {P D : Addr} {H : Hp} {xs ys : List V} (t : TT1 P H) (hD : H D = some (.lst xs)) : TT1 P (upd H D (.lst ys)) := fun p hp => by
  obtain ⟨ps, h1, h2, h3⟩ := t p hp
  refine ⟨ps, ?_, h2, fun pos cv hc => ?_⟩
  · rw [upd_ne fun z => by rw [z, hD] at h1; cases h1]; exact h1
  · obtain ⟨c, e, hcc⟩ := h3 pos cv hc
    refine ⟨c, e, ?_⟩
    rw [upd_ne fun z => by rw [z, hD] at hcc; cases hcc]
    exact hcc
def DZ (k : Nat) : Wd := (List.replicate k FST).flatten
theorem ev_deep {σ : L2.St} {H : Hp} {n : Nat} {i : Int} (hi : i = (n : Int)) (h1 : 1 ≤ n) (h2 : n ≤ 40) (hz : Txt.mul (S FST) ((n : Int) - 1) = S (DZ (n - 1))) (hl : (DZ (n - 1)).length ≤ 1000) : Ev (tCall spDeep [] C8.E0 (tCons (tC (.int i)) tNil)) σ H (.str (S (DZ (n - 1) ++ [49]))) :=
  ev_call (ea_cons (by rw [hi]; exact ev_c) ea_nil) fun H1 e1 Q q E => ⟨n, DZ (n - 1), rfl, h1, h2, hz, hl, q⟩
theorem yes_then {σ : L2.St} {G : Hp} {R1 R2 : Hp → Prop} (h : R1 G) : tYes σ G fun b G3 => if b = true then R1 G3 else R2 G3 := by
  show (if true = true then R1 G else R2 G)
  rw [if_pos rfl]
  exact h
theorem all_true (n : Nat) : (List.replicate n true).all id = true := by
  induction n with
  | zero => rfl
  | succ n ih => rw [List.replicate_succ]; simpa using ih
def PARTS (i : Nat) : Wd := [112, 97, 114, 116, 32, 112] ++ TL.numL i ++ [32, 102, 117, 110, 32, 120, 32, 120]
def RUN1 : Wd := [114, 117, 110, 32, 49]
def RUN_ : Wd := [114, 117, 110, 32]
def PF : Wd := [112, 97, 114, 116, 32, 102, 32, 102, 117, 110, 32, 120, 32]
def NR1 : Wd := [10, 114, 117, 110, 32, 49]
def R1N : Wd := [114, 117, 110, 32, 49, 10]
def RF_ : Wd := [114, 117, 110, 32, 102, 105, 114, 115, 116, 32]
def PFF : Wd := [112, 97, 114, 116, 32, 102, 32, 102, 117, 110, 32, 120, 32, 102, 105, 114, 115, 116, 32, 120, 10, 114, 117, 110, 32, 102, 105, 114, 115, 116, 32]
def FINE : List Wd := [[114, 117, 110, 32, 57, 57], [114, 117, 110, 32, 45, 57, 57], [114, 117, 110, 32, 48], [114, 117, 110, 32, 108, 101, 116, 32, 97, 98, 99, 100, 101, 102, 103, 104, 32, 49, 32, 97, 98, 99, 100, 101, 102, 103, 104], [114, 117, 110, 32, 108, 101, 116, 32, 97, 49, 32, 49, 32, 97, 49], [114, 117, 110, 32, 108, 101, 116, 32, 120, 32, 49, 32, 108, 101, 116, 32, 120, 32, 120, 32, 120], [114, 117, 110, 32, 102, 117, 110, 32, 120, 32, 102, 117, 110, 32, 120, 32, 120]]
section
variable {P : Program} {w : World} {K : PySem.W.Frag} {mg : Str → Option Value} {base : Heap} {f : Addr} {fd : FuncData} {Pt : Addr}
def spBo (Pt : Addr) : Sp := fun vs H Q _ => ∃ x, vs = [x] ∧ TT1 Pt H ∧ ∀ H', LamX.ExtN H H' → TT1 Pt H' → Q (.bl true) H'
abbrev nBo : List Str := ["pot", "parts", "wide", "fine", "at", "text"]
theorem scBo : FnScope nBo ["pot"] (C8.fnScope (top 45)) := C8.fnScope_by (by decide +kernel)
theorem ok_bounds (F : C8.Def K mg "_law_are_bounds_right" (top 45) f fd) (b : Binds K fd ["pot"] []) (T : Txt3 K w mg) (cN : C8.Cal P w K mg base 11 "_law_number_of" (spNum K Pt) []) (cD : C8.Cal P w K mg base 1 "_law_deep" spDeep []) (cW : ∀ d, C8.Cal P w K mg base (d + 1) "_law_wide" (spWide d) []) : C8.Cal P w K mg base 12 "_law_are_bounds_right" (spBo Pt) [] := by
  refine C8.cal0 F b .nil scBo (fun vs H Q E h => by obtain ⟨x, rfl, _⟩ := h; rfl) (fun cdv A outer s H vs Q E hr h => ?_)
  obtain ⟨x, rfl, hT, k⟩ := h
  refine ⟨_, pss_cons (ps_setLc (i := 1) (own := [("at", 4)]) (g := gName 4) (tt := tYes) (te := tOp rCatS (tOp rCatS (tC (.str "part p")) (tCB rStrI (tCons (tVar 4) tNil))) (tC (.str " fun x x"))) rfl scBo.nd rfl rfl (sw_true rfl rfl rfl (by decide +kernel)) (pi_range1 (by rfl) T.range_ (pa_cons pe_int pa_nil)) (blkOk_by (N := nBo) (sc := C8.fnScope (top 45)) (by decide +kernel))
        (fun _ _ _ _ _ => pg_name (i := 4) scBo.nd rfl (Or.inl rfl)) (fun _ _ _ _ _ => pts_nil) (fun _ _ _ _ _ => pe_op op_add_str (pe_op op_add_str pe_str (pe_callTy call_str_int (by rfl) T.str_ (by decide +kernel) (pa_cons (pv 4) pa_nil))) pe_str))
    (pss_cons (ps_if (pw_or (pt_cmp (pc_notN (C8.pe_c cN hr (Nat.le_refl _) (by rfl) (pa_cons (pe_join pe_str (pe_op op_cat (pe_slice sl_list (pv 1) po_none (po_some pe_int)) (pe_lst (pa_cons pe_str pa_nil)))) pa_nil)))) (pw_or1 (pt_cmpR op_ne (C8.pe_c cN hr (Nat.le_refl _) (by rfl) (pa_cons (pe_join pe_str (pe_op op_cat (pv 1) (pe_lst (pa_cons pe_str pa_nil)))) pa_nil)) pe_int (nomark _)))).pt (pss_one (ps_ret pe_bl)) pss_nil)
    (pss_cons (ps_if (pw_or (pt_cmp (pc_notN (C8.pe_c cN hr (Nat.le_refl _) (by rfl) (pa_cons (pe_op op_add_str pe_str (C8.pe_c cD hr (by decide) (by rfl) (pa_cons pe_int pa_nil))) pa_nil)))) (pw_or1 (pt_cmpR op_ne (C8.pe_c cN hr (Nat.le_refl _) (by rfl) (pa_cons (pe_op op_add_str pe_str (C8.pe_c cD hr (by decide) (by rfl) (pa_cons pe_int pa_nil))) pa_nil)) pe_int (nomark _)))).pt (pss_one (ps_ret pe_bl)) pss_nil)
    (pss_cons (ps_if (pt_cmp (pc_notN (C8.pe_c cN hr (Nat.le_refl _) (by rfl) (pa_cons (pe_op op_add_str (pe_op op_add_str pe_str (C8.pe_c cD hr (by decide) (by rfl) (pa_cons pe_int pa_nil))) pe_str) pa_nil)))) (pss_one (ps_ret pe_bl)) pss_nil)
    (pss_cons (ps_if (pw_or (pt_cmpR op_ne (C8.pe_c cN hr (Nat.le_refl _) (by rfl) (pa_cons (pe_op op_add_str (pe_op op_add_str pe_str pe_str) (C8.pe_c cD hr (by decide) (by rfl) (pa_cons pe_int pa_nil))) pa_nil)) pe_int (nomark _)) (pw_or1 (pt_cmpR op_ne (C8.pe_c cN hr (Nat.le_refl _) (by rfl) (pa_cons (pe_op op_add_str (pe_op op_add_str pe_str (C8.pe_c cD hr (by decide) (by rfl) (pa_cons pe_int pa_nil))) pe_str) pa_nil)) pe_int (nomark _)))).pt (pss_one (ps_ret pe_bl)) pss_nil)
    (pss_cons (ps_set (i := 2) scBo.nd rfl (Or.inl rfl) (C8.pe_c (cW 6) hr (by decide) (by rfl) (pa_cons pe_int pa_nil)))
    (pss_cons (ps_if (pw_or (pt_cmpR op_ne (pe_callB call_len_seq (by rfl) T.len_ boot_len (pa_cons (pe_split (pv 2) pe_str) pa_nil)) pe_int (nomark _)) (pw_or1 (pt_cmp (pc_notN (C8.pe_c cN hr (Nat.le_refl _) (by rfl) (pa_cons (pe_op op_add_str (pe_op op_add_str pe_str (pe_slice C8.sl_txt (pv 2) po_none (po_some (pe_un un_neg pe_int)))) pe_str) pa_nil)))))).pt (pss_one (ps_ret pe_bl)) pss_nil)
    (pss_cons (ps_if (pw_or (pt_cmpR op_ne (C8.pe_c cN hr (Nat.le_refl _) (by rfl) (pa_cons (pe_op op_add_str pe_str (pv 2)) pa_nil)) pe_int (nomark _)) (pw_or1 (pt_cmpR op_ne (C8.pe_c cN hr (Nat.le_refl _) (by rfl) (pa_cons (pe_op op_add_str pe_str (pv 2)) pa_nil)) pe_int (nomark _)))).pt (pss_one (ps_ret pe_bl)) pss_nil)
    (pss_cons (ps_set (i := 3) scBo.nd rfl (Or.inl rfl) (pe_lst (pa_cons pe_str (pa_cons pe_str (pa_cons pe_str (pa_cons pe_str (pa_cons pe_str (pa_cons pe_str (pa_cons pe_str pa_nil)))))))))
    (pss_one (ps_ret (pe_callB (cr_all rfl) (by rfl) T.all_ boot_all (pa_cons (pe_lc (own := [("text", 5)]) (g := gName 5) (tt := tYes) (te := tIsN (tCall (spNum K Pt) [] C8.E0 (tCons (tVar 5) tNil))) rfl scBo.nd (pi_list (pv 3)) (blkOk_by (N := nBo) (sc := C8.fnScope (top 45)) (by decide +kernel))
        (fun _ _ _ _ _ => pg_name (i := 5) scBo.nd rfl (Or.inl rfl)) (fun _ _ _ _ _ => pts_nil) (fun _ _ _ _ _ => pe_cmp (pc_isN (C8.pe_c cN hr (Nat.le_refl _) (by rfl) (pa_cons (pv 5) pa_nil))))) pa_nil)))))))))))), ?_⟩
  have parts : EvL (tLc (iRng1 (tCons (tC (.int 13)) tNil)) (gName 4) tYes (tOp rCatS (tOp rCatS (tC (.str "part p")) (tCB rStrI (tCons (tVar 4) tNil))) (tC (.str " fun x x"))) [4]) (start nBo [x]) H (((List.range 13).map PARTS).map fun x => .str (S x)) := by
    have g := el_lcR1 (te := tOp rCatS (tOp rCatS (tC (.str "part p")) (tCB rStrI (tCons (tVar 4) tNil))) (tC (.str " fun x x"))) (t := tYes) (ta := tCons (tC (.int 13)) tNil) (j := 4) (vs := [4]) (n := 13) (σ := start nBo [x]) (H := H) (fun _ => true) (fun i => .str (S (PARTS i))) (ea_cons ev_c ea_nil) (by decide) (fun _ => rfl) (fun i H1 e1 hi => fun H2 e2 Q q => q H2 (Ex.refl H2)) fun i H1 e1 hi _ => by
      have hi2 : i < 13 := by omega
      have hnl : (TL.numL i).length ≤ 4 := by
        have : ∀ i < 13, (TL.numL i).length ≤ 4 := by decide +kernel
        exact this i hi2
      have hlog : ((i : Int)).natAbs.log2 < 1920 := by
        have : ∀ i < 13, ((i : Nat)).log2 < 1920 := by decide +kernel
        have := this i hi2
        rw [Int.natAbs_natCast]
        exact this
      have num : Ev (tCB rStrI (tCons (tVar 4) tNil)) ((wipe (start nBo [x]) [4]).set 4 (some (.int i))) H1 (.str (S (TL.numL i))) := ev_cb (vs := [.int i]) (ea_cons (ev_var rfl) ea_nil) fun H2 e2 Q q => ⟨i, rfl, hlog, by rw [num_S]; exact q H2 (Ex.refl H2)⟩
      exact ev_op (ev_op (ev_lit (by decide)) num (rv_cat (by simp; omega))) (ev_lit (by decide)) (rv_cat (by simp; omega))
    have e : given (13 : Int).toNat (fun _ => true) (fun i => V.str (S (PARTS i))) = ((List.range 13).map PARTS).map fun x => .str (S x) := by
      unfold given
      rw [List.filter_eq_self.mpr fun _ _ => rfl, List.map_map]
      rfl
    rw [← e]
    exact g
  refine q_asgL parts fun pa H1 hpa0 e1 hpa => ?_
  have t1 := tabs_ex hT e1
  have x1 := extN_of e1
  have lp : (((List.range 13).map PARTS).map fun x => V.str (S x)).length = 13 := by simp
  have run1 : ∀ {σ : L2.St} {G : Hp}, EvL (tLst (tCons (tC (.str "run 1")) tNil)) σ G ([RUN1].map fun x => .str (S x)) := el_lst (ea_cons (ev_lit (by decide)) ea_nil) (by show 1 ≤ 100000; decide)
  have d29 : ∀ {σ : L2.St} {G : Hp}, Ev (tCall spDeep [] C8.E0 (tCons (tC (.int 29)) tNil)) σ G (.str (S (DZ 28 ++ [49]))) := ev_deep (n := 29) rfl (by decide) (by decide) (by decide +kernel) (by decide +kernel)
  have d30 : ∀ {σ : L2.St} {G : Hp}, Ev (tCall spDeep [] C8.E0 (tCons (tC (.int 30)) tNil)) σ G (.str (S (DZ 29 ++ [49]))) := ev_deep (n := 30) rfl (by decide) (by decide) (by decide +kernel) (by decide +kernel)
  have d31 : ∀ {σ : L2.St} {G : Hp}, Ev (tCall spDeep [] C8.E0 (tCons (tC (.int 31)) tNil)) σ G (.str (S (DZ 30 ++ [49]))) := ev_deep (n := 31) rfl (by decide) (by decide) (by decide +kernel) (by decide +kernel)
  refine q_whenN (P := Pt) (b := false || false) t1 (etn_or (etN_none (text := TL.joinL [10] (((List.range 13).map PARTS).take 12 ++ [RUN1])) (fun G eG => ?_) (by decide +kernel) (by decide +kernel)) fun _ => etN_ne (n := 13) (text := TL.joinL [10] ((List.range 13).map PARTS ++ [RUN1])) (fun G eG => ?_) (by decide +kernel) (by decide +kernel) rfl) (fun z => by cases z) fun _ H2 e2 t2 => ?_
  · refine ev_join (K := K) (ev_lit (by decide)) ?_ (by decide +kernel)
    rw [List.map_append, List.map_take]
    refine el_catL ?_ run1 (by simp)
    have c12 : cutV (((List.range 13).map PARTS).map fun x => V.str (S x)) none (some 12) = (((List.range 13).map PARTS).map fun x => V.str (S x)).take 12 := rfl
    rw [← c12]
    exact el_sl (K := K) (ev_var rfl) eo_none (eo_some ev_c) (sq_of (xn_lst eG hpa))
  · refine ev_join (K := K) (ev_lit (by decide)) ?_ (by decide +kernel)
    rw [List.map_append]
    exact el_catV (ev_var rfl) (xn_lst eG hpa) run1 (by simp)
  refine q_whenN (P := Pt) (b := false || false) t2 (etn_or (etN_none (text := RUN_ ++ (DZ 29 ++ [49])) (fun G eG => ev_op (ev_lit (by decide)) d30 (rv_cat (by decide +kernel))) (by decide +kernel) (by decide +kernel)) fun _ => etN_ne (n := 1) (text := RUN_ ++ (DZ 30 ++ [49])) (fun G eG => ev_op (ev_lit (by decide)) d31 (rv_cat (by decide +kernel))) (by decide +kernel) (by decide +kernel) rfl) (fun z => by cases z) fun _ H3 e3 t3 => ?_
  refine q_whenN (P := Pt) (b := false) t3 (etN_none (text := PF ++ (DZ 28 ++ [49]) ++ NR1) (fun G eG => ev_op (ev_op (ev_lit (by decide)) d29 (rv_cat (by decide +kernel))) (ev_lit (by decide)) (rv_cat (by decide +kernel))) (by decide +kernel) (by decide +kernel)) (fun z => by cases z) fun _ H4 e4 t4 => ?_
  refine q_whenN (P := Pt) (b := false || false) t4 (etn_or (etN_ne (n := 2) (text := R1N ++ PF ++ (DZ 29 ++ [49])) (fun G eG => ev_op (ev_op (ev_lit (by decide)) (ev_lit (by decide)) (rv_cat (by decide +kernel))) d30 (rv_cat (by decide +kernel))) (by decide +kernel) (by decide +kernel) rfl) fun _ => etN_ne (n := 1) (text := PF ++ (DZ 29 ++ [49]) ++ NR1) (fun G eG => ev_op (ev_op (ev_lit (by decide)) d30 (rv_cat (by decide +kernel))) (ev_lit (by decide)) (rv_cat (by decide +kernel))) (by decide +kernel) (by decide +kernel) rfl) (fun z => by cases z) fun _ H5 e5 t5 => ?_
  refine q_asg (v := .str (S (wideF 6 59))) (ev_call (ea_cons ev_c ea_nil) fun G eG Q' q E' => ⟨59, rfl, by decide, by decide, q⟩) fun H6 e6 => ?_
  have t6 := tabs_ex t5 e6
  refine q_whenN (P := Pt) (b := false || false) t6 (etn_or (etn_test (en_of fun G eG => ev_is (ev_op (ev_lenN (K := K) (el_split (a := wideF 6 59) (b := [32]) (ev_var rfl) (ev_lit (by decide)) (by decide) (by decide) (by decide +kernel))) ev_c (rv_ne rfl)) (by decide +kernel))) fun _ => etN_none (text := RUN_ ++ (wideF 6 59).take ((wideF 6 59).length - 1) ++ [57]) (fun G eG => ev_op (ev_op (ev_lit (by decide)) (ev_slS (ev_var rfl) (by decide +kernel) (by decide +kernel)) (rv_cat (by decide +kernel))) (ev_lit (by decide)) (rv_cat (by decide +kernel))) (by decide +kernel) (by decide +kernel)) (fun z => by cases z) fun _ H7 e7 t7 => ?_
  refine q_whenN (P := Pt) (b := false || false) t7 (etn_or (etN_ne (n := 1) (text := RF_ ++ wideF 6 59) (fun G eG => ev_op (ev_lit (by decide)) (ev_var rfl) (rv_cat (by decide +kernel))) (by decide +kernel) (by decide +kernel) rfl) fun _ => etN_ne (n := 2) (text := PFF ++ wideF 6 59) (fun G eG => ev_op (ev_lit (by decide)) (ev_var rfl) (rv_cat (by decide +kernel))) (by decide +kernel) (by decide +kernel) rfl) (fun z => by cases z) fun _ H8 e8 t8 => ?_
  refine q_asgL (xs := FINE.map fun x => .str (S x)) (el_lst (ea_cons (ev_lit (by decide)) (ea_cons (ev_lit (by decide)) (ea_cons (ev_lit (by decide)) (ea_cons (ev_lit (by decide)) (ea_cons (ev_lit (by decide)) (ea_cons (ev_lit (by decide)) (ea_cons (ev_lit (by decide)) ea_nil))))))) (by decide)) fun fl H9 hfl0 e9 hfl => ?_
  have t9 := tabs_ex t8 e9
  have x9 : LamX.ExtN H H9 := xn_trans (xn_trans (xn_trans (xn_trans (xn_trans (xn_trans x1 e2) e3) e4) e5) (extN_of e6)) (xn_trans (xn_trans e7 e8) (extN_of e9))
  have allf : ∀ t ∈ FINE, t.length ≤ 900 ∧ errN t = none := by decide +kernel
  have lf : (FINE.map fun x => V.str (S x)).length = 7 := rfl
  refine ⟨_, rfl, fl, rfl, ⟨_, sq_of hfl⟩, fun D hD => ?_⟩
  refine comp_walk (body := fun y H' Nx => gName 5 y (wipe ([some x, some (.ref pa), some (.str (S (wideF 6 59))), some (.ref fl), none, none] : L2.St) [5]) H' fun σ2 G2 => wipe σ2 [5] = wipe ([some x, some (.ref pa), some (.str (S (wideF 6 59))), some (.ref fl), none, none] : L2.St) [5] ∧ tYes σ2 G2 fun b G3 => if b = true then tIsN (tCall (spNum K Pt) [] C8.E0 (tCons (tVar 5) tNil)) σ2 G3 fun y G4 => ∃ acc, G4 D = some (.lst acc) ∧ acc.length < sizeLine ∧ Nx (upd G4 D (.lst (acc ++ [y]))) else Nx G3)
    (walk_list (K := K) (a := fl) (xs := FINE.map fun x => .str (S x))) (fun i G => LamX.ExtN H9 G ∧ TT1 Pt G ∧ G D = some (.lst ((List.replicate i true).map V.bl))) ⟨extN_of (ex_put hD (Ex.refl H9)), tabs_ex t9 (ex_put hD (Ex.refl H9)), upd_same⟩ (fun i G _ hp => sq_of (xn_lst hp.1 hfl)) (fun i G y G' hi hp hy => ?_) (fun G hp => ?_)
  · obtain ⟨rfl, hx⟩ := hy
    obtain ⟨eG, tG, hd⟩ := hp
    rw [List.getElem?_map] at hx
    cases z : FINE[i]? with
    | none => rw [z] at hx; cases hx
    | some t =>
      rw [z] at hx
      obtain rfl : V.str (S t) = y := Option.some.inj hx
      obtain ⟨h1, h2⟩ := allf t (List.mem_of_getElem? z)
      refine ⟨rfl, yes_then ?_⟩
      refine (en_is (en_isN (en_num (K := K) (P := Pt) (E := C8.E0) (text := t) (ta := tVar 5) (σ := ([some x, some (.ref pa), some (.str (S (wideF 6 59))), some (.ref fl), none, some (.str (S t))] : L2.St)) (H := G') (fun _ _ => ev_var rfl) h1)) (by rw [numV_eq h2]; simp [onV]) : EvN Pt _ _ G' (.bl true)) G' (xn_refl G') tG _ fun G4 e4 t4 => ?_
      have hd4 := xn_lst e4 hd
      rw [lf] at hi
      refine ⟨_, hd4, by rw [List.length_map, List.length_replicate, sizeLine_eq]; omega, xn_put hD (xn_trans eG e4), tabs_put t4 hd4, ?_⟩
      rw [upd_same, List.replicate_succ', List.map_append]
      rfl
  · obtain ⟨eG, tG, hd⟩ := hp
    refine ⟨D, _, rfl, sq_of hd, ?_⟩
    rw [all_true]
    exact k G (xn_trans x9 eG) tG
end
end K5
set_option Elab.async false
set_option linter.all false
set_option maxRecDepth 100000
set_option maxHeartbeats 4000000
namespace K5
open PySem PySem.Spec PyProof.Rows L2 Evl Xl SX Mi
theorem tabs_keep {P p : Addr} {H H' : Hp} {xs : List V} (t : TT1 P H) (hp : H p = some (.lst xs)) (k : Keep (fun c => c = p) H H') : TT1 P H' := fun q hq => by
  obtain ⟨ps, h1, h2, h3⟩ := t q hq
  refine ⟨ps, k _ _ (fun z => by rw [z, hp] at h1; cases h1) h1, h2, fun pos cv hc => ?_⟩
  obtain ⟨c, e, hcc⟩ := h3 pos cv hc
  exact ⟨c, e, k _ _ (fun z => by rw [z, hp] at hcc; cases hcc) hcc⟩
theorem tyX_of {K : PySem.W.Frag} {H : Hp} {v : V} {T : String} (h : TyB K H v T) : TyX K H v (.type T) := by
  cases h with
  | non => exact .base .non
  | bl b => exact .base (.bl b)
  | int i => exact .base (.int i)
  | str x => exact .base (.str x)
  | byt b => exact .byt b
  | lst h =>
    rcases h with (h | ⟨o, h⟩) | ⟨o, its, n, h1, h2, _⟩
    · exact .base (.lst h)
    · exact .base (.frz h)
    · exact .kList h1 h2
  | tup h =>
    rcases h with (h | ⟨o, h⟩) | ⟨o, its, n, h1, h2, _⟩
    · exact .base (.tup h)
    · exact .fTuple h
    · exact .kTuple h1 h2
  | dK h => exact .base (.dK h)
theorem kit_str {K : PySem.W.Frag} {H : Hp} {v : V} {T : String} (h : TyB K H v T) : PySem.W.kitOne K (.type T) (.type "str") = some (decide (T = "str")) := by
  cases h <;> rfl
theorem en_isi {P : Addr} {K : PySem.W.Frag} {σ : L2.St} {H : Hp} {v : V} {T : String} {j : Nat} (hv : σ[j]? = some (some v)) (h : TyB K H v T) : EvN P (tCB (Xv.rIsV K) (tCons (tVar j) (tCons (tC (.ty "str")) tNil))) σ H (.bl (decide (T = "str"))) :=
  en_of fun H1 e1 => ev_cb (vs := [v, .ty "str"]) (ea_cons (ev_var hv) (ea_cons ev_c ea_nil)) fun H4 e4 Q q => ⟨v, .ty "str", .type T, .type "str", _, rfl, .ty "str", .inl (tyX_of (TyB_ex (TyB_extN h e1) e4)), kit_str h, q H4 (Ex.refl H4)⟩
def rRepr : List V → Hp → VK → Prop := fun xs H Q => ∃ i, xs = [V.int i] ∧ i.natAbs.log2 < 1920 ∧ Q (V.str (Str.ofString (toString i))) H
theorem en_repr {P : Addr} {σ : L2.St} {H : Hp} {te : TE} {i : Int} (h : EvN P te σ H (.int i)) (hl : i.natAbs.log2 < 1920) : EvN P (tCB rRepr (tCons te tNil)) σ H (.str (Str.ofString (toString i))) := fun H1 e t Q q =>
  h H1 e t _ fun H2 e2 t2 => ⟨i, rfl, hl, q H2 e2 t2⟩
def OAK (K : PySem.W.Frag) (p : Addr) (ta : TA) (σ : L2.St) (n : Nat) (o m : Int) : Prop := ∀ H, H p = some (.lst [.int o, .int m, .int 0]) → ∀ (Q : List V → Hp → Prop), (∀ vs H1, Keep (fun c => c = p) H H1 → vs.length = n → (∀ v ∈ vs, OddV K p H1 v) → Q vs H1) → ta σ H Q
theorem oak_cons {K : PySem.W.Frag} {p : Addr} {ta : TE} {tr : TA} {σ : L2.St} {n : Nat} {o m : Int} (h : OE K p ta σ) (hr : OAK K p tr σ n o m) : OAK K p (tCons ta tr) σ (n + 1) o m := fun H hp Q q =>
  h H (by rw [hp]; simp) _ fun v H1 e1 hv => hr H1 (e1 _ _ hp) _ fun vs H2 k2 hn hvs => q (v :: vs) H2 (fun c u n hc => k2 c u n (e1 _ _ hc)) (by simp [hn]) fun u hu => by
    rcases List.mem_cons.mp hu with z | z
    · rw [z]; exact hv.keep k2
    · exact hvs u z
theorem oak_odd {K : PySem.W.Frag} {p : Addr} {σ : L2.St} {o m : Int} {E : XK} (hσ : σ[0]? = some (some (.ref p))) (ho : 0 ≤ o) (h1 : 0 ≤ m) (h2 : m < 2305843009213693921) : OAK K p (tCons (tCall (spOdd K) [] E (tCons (tVar 0) tNil)) tNil) σ 1 o m := fun H hp Q q =>
  ⟨_, hσ, p, o, m, rfl, hp, ho, h1, h2, fun v H' hv k' => q [v] H' k' rfl fun u hu => by rw [List.mem_singleton.mp hu]; exact hv⟩
theorem tup_argK {K : PySem.W.Frag} {p : Addr} {ta : TA} {σ : L2.St} {n : Nat} {o m : Int} {H : Hp} {R : VK} (h : OAK K p ta σ n o m) (hp : H p = some (.lst [.int o, .int m, .int 0])) (hn : n ≤ 100) (k : ∀ vs s H1, Keep (fun c => c = p) H H1 → H1 s = none → (∀ v ∈ vs, OddV K p H1 v) → R (.ref s) (upd H1 s (.tup vs))) : tTup ta σ H R :=
  h H hp _ fun vs H1 k1 hl hv => ⟨by rw [sizeLine_eq]; omega, fun s hs => k vs s H1 k1 hs hv⟩
theorem q_forTup {K : PySem.W.Frag} {ta : TA} {g : TG} {tu tz : TS} {D : Ends} {σ : L2.St} {H : Hp} (h : tTup ta σ H fun x H1 => ∃ a, x = V.ref a ∧ (∃ xs, SqT K H1 a xs) ∧ ∃ W : Nat → Nat → L2.St → Hp → Prop, (∃ m, W 0 m σ H1) ∧ ∀ i m σ H, W i m σ H → ((Itt K a).stop i H ∧ tz D σ H) ∨ ((Itt K a).go i H ∧ ∃ N : L2.St → Hp → Prop, (∀ σ' H', N σ' H' → ∃ m', m' < m ∧ W (i + 1) m' σ' H') ∧ ∀ x H', (Itt K a).yld i H x H' → g x σ H' fun σ2 H2 => tu { nx := N, rt := D.rt, bk := tz D, ct := N } σ2 H2)) :
    tSeq (tFor (iTup K (tTup ta)) g tu) tz D σ H := h
theorem for_tupQ {K : PySem.W.Frag} {a : Addr} {xs : List V} {g : TG} {tu tz : TS} {D : Ends} {σ : L2.St} {H : Hp} (Pv : Nat → L2.St → Hp → Prop) (h0 : Pv 0 σ H) (hs : ∀ i σ H, i ≤ xs.length → Pv i σ H → SqT K H a xs)
    (ht : ∀ i x σ H, xs[i]? = some x → Pv i σ H → g x σ H fun σ2 H2 => tu { nx := Pv (i + 1), rt := D.rt, bk := tz D, ct := Pv (i + 1) } σ2 H2) (hd : ∀ σ H, Pv xs.length σ H → tz D σ H) :
    ∃ W : Nat → Nat → L2.St → Hp → Prop, (∃ m, W 0 m σ H) ∧ ∀ i m σ H, W i m σ H → ((Itt K a).stop i H ∧ tz D σ H) ∨ ((Itt K a).go i H ∧ ∃ N : L2.St → Hp → Prop, (∀ σ' H', N σ' H' → ∃ m', m' < m ∧ W (i + 1) m' σ' H') ∧ ∀ x H', (Itt K a).yld i H x H' → g x σ H' fun σ2 H2 => tu { nx := N, rt := D.rt, bk := tz D, ct := N } σ2 H2) :=
  for_tup (D := { nx := tz D, rt := D.rt, bk := D.bk, ct := D.ct }) Pv h0 hs ht hd
theorem rows_right : ∀ r ∈ ROWS, errN r.1 = some r.2 ∧ r.1.length ≤ 900 ∧ r.2.log2 < 1920 := by decide +kernel
section
variable {P : Program} {w : World} {K : PySem.W.Frag} {mg : Str → Option Value} {base : Heap} {f : Addr} {fd : FuncData} {Pt : Addr}
def spRight (Pt : Addr) : Sp := fun vs H Q _ => ∃ (p : Addr) (o m : Int), vs = [.ref p] ∧ TT1 Pt H ∧ H p = some (.lst [.int o, .int m, .int 0]) ∧ 0 ≤ o ∧ 0 ≤ m ∧ m < 2305843009213693921 ∧ ∀ H', Q (.bl true) H'
abbrev nRi : List Str := ["pot", "value", "rows", "text", "number"]
theorem scRi : FnScope nRi ["pot"] (C8.fnScope (top 48)) := C8.fnScope_by (by decide +kernel)
theorem ok_right (F : C8.Def K mg "_law_right" (top 48) f fd) (b : Binds K fd ["pot"] []) (T : Txt3 K w mg) (cN : C8.Cal P w K mg base 11 "_law_number_of" (spNum K Pt) []) (cO : C8.Cal P w K mg base 3 "_law_odd" (spOdd K) []) {fR : Addr} {fdR : FuncData} (FR : FnOk P w K mg base C8.CX0 1 fR fdR [] spRows) (mR : mg "_law_rows" = some (.ref fR)) (kR : PySem.W.keepIn K (.ref fR) = true) (bR : Binds K fdR [] []) (cB : C8.Cal P w K mg base 12 "_law_are_bounds_right" (spBo Pt) []) : C8.Cal P w K mg base 13 "_law_right" (spRight Pt) [] := by
  refine C8.cal0 F b .nil scRi (fun vs H Q E h => by obtain ⟨p, o, m, rfl, _⟩ := h; rfl) (fun cdv A outer s H vs Q E hr h => ?_)
  obtain ⟨p, o, m, rfl, hT, hp, ho, hm0, hm1, k⟩ := h
  refine ⟨_, pss_cons (ps_for PassesOwn.never rfl (pi_tup (pe_tup (pa_cons pe_non (pa_cons pe_int (pa_cons pe_bl (pa_cons (pe_lst (pa_cons pe_str pa_nil)) (pa_cons (pe_tup (pa_cons pe_str pa_nil)) (pa_cons (C8.pe_c cO hr (by decide) (by rfl) (pa_cons (pv 0) pa_nil)) pa_nil)))))))) (pg_name (i := 1) scRi.nd rfl (Or.inl rfl))
      (pss_one (ps_if (pw_or (pw_and (pt_not (pt_val (pe_callB Xv.call_isV (by rfl) T.isi_ (by decide +kernel) (pa_cons (pv 1) (pa_cons (pe_bltn (v := .ty "str") (by rfl) T.str_ (by decide +kernel) rfl) pa_nil))))) (pw_and (pt_cmp (pc_notN (C8.pe_c cN hr (by decide) (by rfl) (pa_cons (pv 1) pa_nil)))) (pw_and1 (pt_cmpR op_ne (pe_callB SkE.call_repr_int (by rfl) T.repr_ (by decide +kernel) (pa_cons (C8.pe_c cN hr (by decide) (by rfl) (pa_cons (pv 1) pa_nil)) pa_nil)) pe_str (nomark _))))).pt
          (pw_or1 (pt_cmp (pc_isN (C8.pe_c cN hr (by decide) (by rfl) (pa_cons (pv 1) pa_nil)))))).pt (pss_one (ps_ret pe_bl)) pss_nil)))
    (pss_cons (ps_set (i := 2) scRi.nd rfl (Or.inl rfl) (pe_call0 (E := C8.E0) FR (hr.mono (by decide)) (by rfl) mR kR bR .nil C8.pass0))
    (pss_cons (ps_for PassesOwn.never rfl (pi_list (pv 2)) (pg_tup (by rfl) (pgs_cons (pg_name (i := 3) scRi.nd rfl (.inl rfl)) (pgs_cons (pg_name (i := 4) scRi.nd rfl (.inl rfl)) pgs_nil)))
      (pss_one (ps_if (pt_cmpR op_ne (pe_callB SkE.call_repr_int (by rfl) T.repr_ (by decide +kernel) (pa_cons (C8.pe_c cN hr (by decide) (by rfl) (pa_cons (pv 3) pa_nil)) pa_nil)) (pe_callB SkE.call_repr_int (by rfl) T.repr_ (by decide +kernel) (pa_cons (pv 4) pa_nil)) (nomark _)) (pss_one (ps_ret pe_bl)) pss_nil)))
    (pss_one (ps_ret (C8.pe_c cB hr (Nat.le_refl _) (by rfl) (pa_cons (pv 0) pa_nil)))))), ?_⟩
  have l0 : (Str.ofString (toString (0 : Int)) : Str) = "0" := by decide
  have lr1 : ∀ {σ : L2.St} {G : Hp}, EvA (tCons (tC (.str "run 1")) tNil) σ G [.str "run 1"] := ea_cons ev_c ea_nil
  have bl : ∀ (b : Bool) H, OddV K p H (.bl b) := fun b H => ⟨fun z => (by cases z), "bool", .bl b, .inl (by decide)⟩
  have non : ∀ H, OddV K p H .non := fun H => ⟨fun z => (by cases z), "NoneType", .non, .inl (by decide)⟩
  refine q_forTup (tup_argK (K := K) (p := p) (n := 6) (o := o) (m := m) ?_ hp (by decide) fun vs t H1 k1 ht hv => ?_)
  · exact oak_cons (oe_c non) (oak_cons (oe_int (i := 5) fun _ => ev_c) (oak_cons (oe_c (bl true)) (oak_cons (oe_lst (fun _ => lr1) (by show 1 ≤ 100; decide)) (oak_cons (fun G hG Q' q => lr1 G (Ex.refl G) _ fun G1 e1 => ⟨by show 1 ≤ sizeLine; rw [sizeLine_eq]; omega, fun s hs => q _ _ (e1.trans (ex_put hs (Ex.refl G1))) ⟨ref_ne (ex_some hG e1) hs, "tuple", .tup (st_of upd_same), .inl (by decide)⟩⟩) (oak_odd rfl ho hm0 hm1)))))
  have t1 := tabs_keep hT hp k1
  have x2 : Ex H1 (upd H1 t (.tup vs)) := ex_put ht (Ex.refl H1)
  have t2 := tabs_ex t1 x2
  have hv2 : ∀ v ∈ vs, OddV K p (upd H1 t (.tup vs)) v := fun v hm => (hv v hm).ex x2
  have ht2 : (upd H1 t (.tup vs)) t = some (.tup vs) := upd_same
  generalize upd H1 t (.tup vs) = G at t2 hv2 ht2
  refine ⟨t, rfl, ⟨_, st_of ht2⟩, for_tupQ (K := K) (a := t) (xs := vs) (fun i σ' G' => LamX.ExtN G G' ∧ TT1 Pt G' ∧ ∃ x, σ' = [some (.ref p), x, none, none, none]) ⟨xn_refl G, t2, _, rfl⟩ (fun i σ' G' _ h => st_of (h.1 _ _ ht2 fun _ z => by cases z)) (fun i x σ' G' hx h => ?_) (fun σ' G' h => ?_)⟩
  · obtain ⟨eG, tG, y, rfl⟩ := h
    obtain ⟨_, T0, hty, hc⟩ := hv2 x (List.mem_of_getElem? hx)
    have htG := TyB_extN hty eG
    have hcond : EvTN Pt (tOr (tAnd (tNot (tB (tCB (Xv.rIsV K) (tCons (tVar 1) (tCons (tC (.ty "str")) tNil))))) (tAnd (tB (tNotN (tCall (spNum K Pt) [] C8.E0 (tCons (tVar 1) tNil)))) (tTest (tOp rNe (tCB rRepr (tCons (tCall (spNum K Pt) [] C8.E0 (tCons (tVar 1) tNil)) tNil)) (tC (.str "0")))))) (tB (tIsN (tCall (spNum K Pt) [] C8.E0 (tCons (tVar 1) tNil))))) ([some (.ref p), some x, none, none, none] : L2.St) G' false := by
      by_cases hs : T0 = "str"
      · rcases hc with hc | ⟨z, hz, rfl⟩
        · exact absurd hs hc
        · have hz2 : errN z = some 1 ∧ z.length ≤ 900 := by
            have : ∀ z ∈ ([[49], [], [48, 49]] : List Wd), errN z = some 1 ∧ z.length ≤ 900 := by decide +kernel
            exact this z hz
          exact etn_is (etn_or (a := false) (b := false) (etn_is (etn_and (a := false) (b := false) (etn_is (etn_not (etn_B (en_isi rfl htG))) (by rw [hs]; rfl)) fun z => (by cases z)) rfl) fun _ => etn_B (en_is (en_isN (en_num (fun _ _ => ev_var rfl) hz2.2)) (by rw [numV_eq hz2.1]; simp [onV]))) rfl
      · have nb : EvN Pt (tCall (spNum K Pt) [] C8.E0 (tCons (tVar 1) tNil)) ([some (.ref p), some x, none, none, none] : L2.St) G' (.int 0) := en_numB (fun _ _ => ev_var rfl) htG hs
        exact etn_is (etn_or (a := false) (b := false) (etn_is (etn_and (a := true) (b := false) (etn_is (etn_not (etn_B (en_isi rfl htG))) (by rw [decide_eq_false hs]; rfl)) fun _ => etn_is (etn_and (a := true) (b := false) (etn_B (en_is (en_notN nb) (by simp))) fun _ => etn_test (en_is (en_op (en_repr nb (by decide)) (en_of fun _ _ => ev_c) fun _ => rv_ne rfl) (by rw [l0]; simp))) rfl) rfl) fun _ => etn_B (en_is (en_isN nb) (by simp))) rfl
    exact s_whenN tG hcond (fun z => by cases z) fun _ G2 e2 t2' => ⟨xn_trans eG e2, t2', _, rfl⟩
  · obtain ⟨eG, tG, y, rfl⟩ := h
    refine q_callA (vs := []) ea_nil fun H3 e3 => ⟨rfl, fun ts r H4 e4 hr0 hts hr4 => ?_⟩
    have t4 := tabs_ex tG (e3.trans e4)
    refine q_forL (K := K) (a := r) (xs := ts.map V.ref) (ev_var rfl) (sq_of hr4) (fun i σ' G' => LamX.ExtN H4 G' ∧ TT1 Pt G' ∧ ∃ u v, σ' = [some (.ref p), y, some (.ref r), u, v]) (fun H5 e5 => ⟨extN_of e5, tabs_ex t4 e5, _, _, rfl⟩) (fun i σ' G' _ h => sq_of (xn_lst h.1 hr4)) (fun i x σ' G' hx h => ?_) (fun σ' G' h => ?_)
    · obtain ⟨eG', tG', u, v, rfl⟩ := h
      rw [List.getElem?_map] at hx
      cases z : ts[i]? with
      | none => rw [z] at hx; cases hx
      | some q =>
        rw [z] at hx
        obtain rfl : V.ref q = x := Option.some.inj hx
        obtain ⟨row, hrow, hq⟩ := hts.get z
        obtain ⟨r1, r2, r3⟩ := rows_right row (List.mem_of_getElem? hrow)
        refine g_two (eG' _ _ hq fun _ z => by cases z) ?_
        refine s_whenN (P := Pt) (b := false) tG' (etn_test (en_is (en_op (en_repr (i := ((row.2 : Nat) : Int)) (en_is (en_num (text := row.1) (fun _ _ => ev_var rfl) r2) (numV_eq r1)) (by rw [Int.natAbs_natCast]; exact r3)) (en_repr (i := ((row.2 : Nat) : Int)) (en_of fun _ _ => ev_var rfl) (by rw [Int.natAbs_natCast]; exact r3)) fun _ => rv_ne rfl) (by simp))) (fun z => by cases z) fun _ G2 e2 t2' => ⟨xn_trans eG' e2, t2', _, _, rfl⟩
    · obtain ⟨eG', tG', u, v, rfl⟩ := h
      exact ⟨_, rfl, .ref p, rfl, tG', fun H' _ _ => k H'⟩
end
end K5
set_option Elab.async false
set_option linter.all false
set_option maxRecDepth 100000
set_option maxHeartbeats 4000000
namespace K5
open PySem PySem.Spec PyProof.Rows L2 Evl Xl SX Mi
section
variable {P : Program} {w : World} {K : PySem.W.Frag} {mg : Str → Option Value} {base : Heap} {f : Addr} {fd : FuncData} {Pt : Addr}
def spLaw (K : PySem.W.Frag) (Pt : Addr) : Sp := fun vs H Q _ => ∃ (a : Addr) (ns : List Int), vs = [.ref a] ∧ SqL K H a (ns.map V.int) ∧ ns.length ≤ 63 ∧ TT1 Pt H ∧ ∀ H', Q (.bl true) H'
theorem scLaw : FnScope ["script"] ["script"] (C8.fnScope (top 49)) := C8.fnScope_by (by decide +kernel)
theorem ok_law (F : C8.Fun K "law" "law" (top 49) f fd) (T : Txt3 K w mg) (cP : C8.Cal P w K mg base 1 "_law_pot" (spPot K) []) (cR : C8.Cal P w K mg base 13 "_law_right" (spRight Pt) []) : FnOk P w K mg base C8.CX0 14 f fd ["script"] (spLaw K Pt) := by
  refine C8.fn0 F scLaw (fun vs H Q E h => by obtain ⟨a, ns, rfl, _⟩ := h; rfl) (fun cdv A outer s H vs Q E hr h => ?_)
  obtain ⟨a, ns, rfl, ha, hn, hT, k⟩ := h
  refine ⟨_, pss_one (ps_ret (C8.pe_c cR hr (Nat.le_refl _) (by rfl) (pa_cons (C8.pe_c cP hr (by decide) (by rfl) (pa_cons (pv 0) (pa_cons pe_int pa_nil))) pa_nil))), ?_⟩
  refine ⟨_, rfl, a, ns, rfl, ha, hn, fun p o m H' hp0 e hp ho hm hm1 => ?_⟩
  exact ⟨p, o, m, rfl, tabs_ex hT e, hp, ho, hm, hm1, fun H2 => k H2⟩
end
end K5
set_option Elab.async false
set_option linter.all false
set_option maxRecDepth 100000
set_option maxHeartbeats 4000000
namespace K5
open PySem PySem.Spec PyProof.Rows L2 Evl Xl SX Mi
section
variable {P : Program} {w : World} {K : PySem.W.Frag} {mg : Str → Option Value} {base : Heap}
/-- all defs together: what the law comes to -/
theorem assemble (T : Txt3 K w mg) {CS CB CN CL CP : Addr} (U : NumC K mg CS CB) (N : NodeC K mg CN) (L : LineC K mg CL) (G : ProgC K mg CP)
    {f9 : Addr} {fd9 : FuncData} (d9 : C8.Def K mg "is_text" (top 9) f9 fd9) (z9 : fd9.defaults = .none)
    {f12 : Addr} {fd12 : FuncData} (d12 : C8.Def K mg "is_name" (top 12) f12 fd12) (z12 : fd12.defaults = .none)
    {f13 : Addr} {fd13 : FuncData} (d13 : C8.Def K mg "integer_of" (top 13) f13 fd13) (z13 : fd13.defaults = .none)
    {f20 : Addr} {fd20 : FuncData} (d20 : C8.Def K mg "is_free" (top 20) f20 fd20) (z20 : fd20.defaults = .none)
    {f21 : Addr} {fd21 : FuncData} (d21 : C8.Def K mg "read_expression" (top 21) f21 fd21) (z21 : fd21.defaults = .none)
    {f22 : Addr} {fd22 : FuncData} (d22 : C8.Def K mg "read_node" (top 22) f22 fd22) (z22 : fd22.defaults = .none)
    {f23 : Addr} {fd23 : FuncData} (d23 : C8.Def K mg "is_written" (top 23) f23 fd23) (z23 : fd23.defaults = .none)
    {f24 : Addr} {fd24 : FuncData} (d24 : C8.Def K mg "hang" (top 24) f24 fd24) (z24 : fd24.defaults = .none)
    {f25 : Addr} {fd25 : FuncData} (d25 : C8.Def K mg "bind" (top 25) f25 fd25) (z25 : fd25.defaults = .none)
    {f30 : Addr} {fd30 : FuncData} (d30 : C8.Def K mg "read_program" (top 30) f30 fd30) (z30 : fd30.defaults = .none)
    {f31 : Addr} {fd31 : FuncData} (d31 : C8.Def K mg "read_line" (top 31) f31 fd31) (z31 : fd31.defaults = .none)
    {f32 : Addr} {fd32 : FuncData} (d32 : C8.Def K mg "can_stand" (top 32) f32 fd32) (z32 : fd32.defaults = .none)
    {f38 : Addr} {fd38 : FuncData} (d38 : C8.Def K mg "_law_pot" (top 38) f38 fd38) (z38 : fd38.defaults = .none)
    {f39 : Addr} {fd39 : FuncData} (d39 : C8.Def K mg "_law_take" (top 39) f39 fd39) (z39 : fd39.defaults = .none)
    {f40 : Addr} {fd40 : FuncData} (d40 : C8.Def K mg "_law_of" (top 40) f40 fd40) (z40 : fd40.defaults = .none)
    {f42 : Addr} {fd42 : FuncData} (d42 : C8.Def K mg "_law_odd" (top 42) f42 fd42) (z42 : fd42.defaults = .none)
    {f44 : Addr} {fd44 : FuncData} (d44 : C8.Def K mg "_law_deep" (top 44) f44 fd44) (z44 : fd44.defaults = .none)
    {f45 : Addr} {fd45 : FuncData} (d45 : C8.Def K mg "_law_are_bounds_right" (top 45) f45 fd45) (z45 : fd45.defaults = .none)
    {f46 : Addr} {fd46 : FuncData} (d46 : C8.Def K mg "_law_wide" (top 46) f46 fd46) (z46 : fd46.defaults = .none)
    {f47 : Addr} {fd47 : FuncData} (d47 : C8.Def K mg "_law_rows" (top 47) f47 fd47) (z47 : fd47.defaults = .none)
    {f48 : Addr} {fd48 : FuncData} (d48 : C8.Def K mg "_law_right" (top 48) f48 fd48) (z48 : fd48.defaults = .none)
    {fe : Addr} {fde : FuncData} (de : C8.Fun K "__init__" "UseError.__init__" sErr fe fde) (ze : fde.defaults = .none)
    {fn : Addr} {fdn : FuncData} (dn : C8.Fun K "__init__" "Node.__init__" sNode fn fdn) (zn : fdn.defaults = .none)
    {fl : Addr} {fdl : FuncData} (dl : C8.Fun K "__init__" "Line.__init__" sLine fl fdl) (zl : fdl.defaults = .none)
    {fg : Addr} {fdg : FuncData} (dg : C8.Fun K "__init__" "Program.__init__" sProg fg fdg) (zg : fdg.defaults = .none)
    {f49 : Addr} {fd49 : FuncData} (d49 : C8.Fun K "law" "law" (top 49) f49 fd49)
    (B : ErrC K mg "BadProgram" CB fe) (MN : Mk K CN fn) (ML : Mk K CL fl) (MP : Mk K CP fg)
    {c Pt f43 f41 : Addr} {oc kV doc pm ct oc2 kV2 doc2 pm2 ct2 cd2 : Value} {od an od2 an2 : Option Addr} {osl osl2 : Array (Option Value)}
    (l43 : K.lookup f43 = some ⟨oc, od, .func (PySem.W.fnOf "_law_number_of" "_law_number_of" (C8.fnArgs (top 43)) (C8.fnBody (top 43)) (C8.fnScope (top 43)) .none kV doc pm an (.ref c) ct), osl⟩) (c43 : PySem.W.codeIn K (.ref c) "_law_number_of" = true) (m43 : mg "_law_number_of" = some (.ref f43)) (k43 : PySem.W.keepIn K (.ref f43) = true) (TB : LamX.TabB base mg c Pt)
    (l41 : K.lookup f41 = some ⟨oc2, od2, .func (PySem.W.fnOf "_law_caught" "_law_caught" (C8.fnArgs (top 41)) (C8.fnBody (top 41)) (C8.fnScope (top 41)) .none kV2 doc2 pm2 an2 cd2 ct2), osl2⟩) (c41 : PySem.W.codeIn K cd2 "_law_caught" = true) (m41 : mg "_law_caught" = some (.ref f41)) (k41 : PySem.W.keepIn K (.ref f41) = true) :
    FnOk P w K mg base C8.CX0 14 f49 fd49 ["script"] (spLaw K Pt) := by
  have b9 : Binds K fd9 ["value"] [] := d9.fn.binds z9 fun _ _ _ _ _ _ us hl => match us, hl with | [_], _ => rfl
  have b12 : Binds K fd12 ["word"] [] := d12.fn.binds z12 fun _ _ _ _ _ _ us hl => match us, hl with | [_], _ => rfl
  have b13 : Binds K fd13 ["word"] [] := d13.fn.binds z13 fun _ _ _ _ _ _ us hl => match us, hl with | [_], _ => rfl
  have b20 : Binds K fd20 ["word"] [] := d20.fn.binds z20 fun _ _ _ _ _ _ us hl => match us, hl with | [_], _ => rfl
  have b21 : Binds K fd21 ["name", "words", "start"] [] := d21.fn.binds z21 fun _ _ _ _ _ _ us hl => match us, hl with | [_, _, _], _ => rfl
  have b22 : Binds K fd22 ["place", "words", "outer"] [] := d22.fn.binds z22 fun _ _ _ _ _ _ us hl => match us, hl with | [_, _, _], _ => rfl
  have b23 : Binds K fd23 ["word"] [] := d23.fn.binds z23 fun _ _ _ _ _ _ us hl => match us, hl with | [_], _ => rfl
  have b24 : Binds K fd24 ["node", "waiting"] [] := d24.fn.binds z24 fun _ _ _ _ _ _ us hl => match us, hl with | [_, _], _ => rfl
  have b25 : Binds K fd25 ["node"] [] := d25.fn.binds z25 fun _ _ _ _ _ _ us hl => match us, hl with | [_], _ => rfl
  have b30 : Binds K fd30 ["text"] [] := d30.fn.binds z30 fun _ _ _ _ _ _ us hl => match us, hl with | [_], _ => rfl
  have b31 : Binds K fd31 ["told"] [] := d31.fn.binds z31 fun _ _ _ _ _ _ us hl => match us, hl with | [_], _ => rfl
  have b32 : Binds K fd32 ["line", "ahead"] [] := d32.fn.binds z32 fun _ _ _ _ _ _ us hl => match us, hl with | [_, _], _ => rfl
  have b38 : Binds K fd38 ["script", "place"] [] := d38.fn.binds z38 fun _ _ _ _ _ _ us hl => match us, hl with | [_, _], _ => rfl
  have b39 : Binds K fd39 ["pot", "upto"] [] := d39.fn.binds z39 fun _ _ _ _ _ _ us hl => match us, hl with | [_, _], _ => rfl
  have b40 : Binds K fd40 ["pot", "some"] [] := d40.fn.binds z40 fun _ _ _ _ _ _ us hl => match us, hl with | [_, _], _ => rfl
  have b42 : Binds K fd42 ["pot"] [] := d42.fn.binds z42 fun _ _ _ _ _ _ us hl => match us, hl with | [_], _ => rfl
  have b44 : Binds K fd44 ["many"] [] := d44.fn.binds z44 fun _ _ _ _ _ _ us hl => match us, hl with | [_], _ => rfl
  have b45 : Binds K fd45 ["pot"] [] := d45.fn.binds z45 fun _ _ _ _ _ _ us hl => match us, hl with | [_], _ => rfl
  have b46 : Binds K fd46 ["many"] [] := d46.fn.binds z46 fun _ _ _ _ _ _ us hl => match us, hl with | [_], _ => rfl
  have b47 : Binds K fd47 [] [] := d47.fn.binds z47 fun _ _ _ _ _ _ us hl => match us, hl with | [], _ => rfl
  have b48 : Binds K fd48 ["pot"] [] := d48.fn.binds z48 fun _ _ _ _ _ _ us hl => match us, hl with | [_], _ => rfl
  have be : Binds K fde ["self", "value"] [] := de.binds ze fun _ _ _ _ _ _ us hl => match us, hl with | [_, _], _ => rfl
  have bn : Binds K fdn ["self", "place", "sign", "outer"] [] := dn.binds zn fun _ _ _ _ _ _ us hl => match us, hl with | [_, _, _, _], _ => rfl
  have bl : Binds K fdl ["self", "name", "told", "nodes"] [] := dl.binds zl fun _ _ _ _ _ _ us hl => match us, hl with | [_, _, _, _], _ => rfl
  have bg : Binds K fdg ["self", "text"] [] := dg.binds zg fun _ _ _ _ _ _ us hl => match us, hl with | [_, _], _ => rfl
  have F43 : C8.Fun K "_law_number_of" "_law_number_of" (top 43) f43 (PySem.W.fnOf "_law_number_of" "_law_number_of" (C8.fnArgs (top 43)) (C8.fnBody (top 43)) (C8.fnScope (top 43)) .none kV doc pm an (.ref c) ct) := ⟨_, _, _, _, _, _, _, _, _, _, rfl, l43, c43⟩
  have b43 : Binds K (PySem.W.fnOf "_law_number_of" "_law_number_of" (C8.fnArgs (top 43)) (C8.fnBody (top 43)) (C8.fnScope (top 43)) .none kV doc pm an (.ref c) ct) ["text"] [] := F43.binds rfl fun _ _ _ _ _ _ us hl => match us, hl with | [_], _ => rfl
  have F41 : C8.Fun K "_law_caught" "_law_caught" (top 41) f41 (PySem.W.fnOf "_law_caught" "_law_caught" (C8.fnArgs (top 41)) (C8.fnBody (top 41)) (C8.fnScope (top 41)) .none kV2 doc2 pm2 an2 cd2 ct2) := ⟨_, _, _, _, _, _, _, _, _, _, rfl, l41, c41⟩
  have b41 : Binds K (PySem.W.fnOf "_law_caught" "_law_caught" (C8.fnArgs (top 41)) (C8.fnBody (top 41)) (C8.fnScope (top 41)) .none kV2 doc2 pm2 an2 cd2 ct2) ["call"] [] := F41.binds rfl fun _ _ _ _ _ _ us hl => match us, hl with | [_], _ => rfl
  have T2 := T.toTxt2
  have T1 := T2.toTxt
  have cT : C8.Cal P w K mg base 1 "is_text" (spIsText K) [] := ok_is_text d9 b9 T1
  have cN : C8.Cal P w K mg base 1 "is_name" spName [] := ok_is_name d12 b12 T1
  have cI : C8.Cal P w K mg base 1 "integer_of" spInt [] := ok_integer_of d13 b13 T1
  have cF : C8.Cal P w K mg base 2 "is_free" spFree [] := ok_is_free d20 b20 T2 cN
  have cW : C8.Cal P w K mg base 2 "is_written" spWritten [] := ok_is_written d23 b23 T1 cI
  have cM : C8.Mak P w K mg base 1 "Node" CN (spNode CN) [] := ok_node dn N MN bn
  have cRd : C8.Cal P w K mg base 3 "read_node" (spRead CN) [] := ok_read d22 b22 T2 N cM cF cW
  have cH : C8.Cal P w K mg base 1 "hang" (spHang CN) [] := ok_hang d24 b24 T2 N
  have cB : C8.Cal P w K mg base 1 "bind" (spBind CN) [] := ok_bind d25 b25 T2 N
  have cE : C8.Cal P w K mg base 4 "read_expression" (spExpr CN) [] := ok_expr d21 b21 T2 N cRd cH cB
  have cL : C8.Mak P w K mg base 1 "Line" CL (spLine CL CN) [] := ok_line dl L N ML bl
  have cRL : C8.Cal P w K mg base 5 "read_line" (spRL CL CN) [] := ok_read_line d31 b31 T2 cF cE cL
  have cC : C8.Cal P w K mg base 1 "can_stand" (spCan CL CN) [] := ok_can d32 b32 T2 L
  have FE : FnOk P w K mg base C8.CX0 1 fe fde ["self", "value"] (spErr K) := ok_err de
  have FR : FnOk P w K mg base (L2.CX P w) 6 f30 fd30 ["text"] (spRP K CB CL CN) := ok_read_program d30 b30 T2 N L B FE be cT cRL cC
  have FP : FnOk P w K mg base (L2.CX P w) 7 fg fdg ["self", "text"] (spPr K CB CP) := ok_program dg T2 G N L FR d30.mgf d30.kp b30
  have FN : FnOk P w K mg base C8.CX0 11 f43 (PySem.W.fnOf "_law_number_of" "_law_number_of" (C8.fnArgs (top 43)) (C8.fnBody (top 43)) (C8.fnScope (top 43)) .none kV doc pm an (.ref c) ct) ["text"] (spNum K Pt) := ok_number l43 c43 TB l41 c41 m41 k41 b41 T2 U G MP FP bg
  have cNum : C8.Cal P w K mg base 11 "_law_number_of" (spNum K Pt) [] := ⟨f43, _, _, _, FN, m43, k43, b43, .nil⟩
  have cPot : C8.Cal P w K mg base 1 "_law_pot" (spPot K) [] := ok_pot d38 b38 T
  have cTk : C8.Cal P w K mg base 1 "_law_take" spTake [] := ok_take d39 b39 T
  have cOf : C8.Cal P w K mg base 2 "_law_of" spOf [] := ok_of d40 b40 T cTk
  have cOd : C8.Cal P w K mg base 3 "_law_odd" (spOdd K) [] := ok_odd d42 b42 T cOf
  have cDp : C8.Cal P w K mg base 1 "_law_deep" spDeep [] := ok_deep d44 b44
  have cWd := ok_wide (P := P) (w := w) (base := base) d46 b46
  have cBo : C8.Cal P w K mg base 12 "_law_are_bounds_right" (spBo Pt) [] := ok_bounds d45 b45 T cNum cDp cWd
  have cRi : C8.Cal P w K mg base 13 "_law_right" (spRight Pt) [] := ok_right d48 b48 T cNum cOd (ok_rows d47) d47.mgf d47.kp b47 cBo
  exact ok_law d49 T cPot cRi
end
end K5
set_option Elab.async false
set_option linter.all false
set_option maxRecDepth 100000
set_option maxHeartbeats 4000000
namespace K5
open PySem PySem.Spec PyProof.Rows L2 Evl Xl SX Mi
theorem find_step {x a : Wd} {hs : Int} {t : Tok} {v : Value} {r : List DictEntry} : List.find? (fun e : DictEntry => Value.isStrOf (S x) e.key) (⟨hs, .str (S a) t, v⟩ :: r) = if a = x then some ⟨hs, .str (S a) t, v⟩ else List.find? (fun e : DictEntry => Value.isStrOf (S x) e.key) r := by
  have : Value.isStrOf (S x) (.str (S a) t) = decide (a = x) := by
    show (S a == S x) = _
    exact S_beq_eq
  rw [List.find?_cons]
  simp only [this]
  by_cases h : a = x
  · simp [h]
  · simp [h]
theorem lookup_step {x a : Wd} {n : Nat} {r : List (Wd × Nat)} : List.lookup x ((a, n) :: r) = if a = x then some n else List.lookup x r := by
  rw [List.lookup_cons]
  by_cases h : a = x
  · subst h; simp
  · have : (x == a) = false := by simpa using fun z => h z.symm
    rw [this, if_neg h]
def entsOf (P : Params) : List (Wd × Nat) → List DictEntry → Prop
  | [], [] => True
  | (a, n) :: r, e :: es => (∃ hs t u, e = ⟨hs, .str (S a) t, .int (Int.ofNat n) u⟩) ∧ entsOf P r es
  | _, _ => False
theorem ents_rel {P : Params} {x : Wd} : ∀ {l : List (Wd × Nat)} {es : List DictEntry}, entsOf P l es → RelO ((l.lookup x).map fun n => V.int (Int.ofNat n)) ((List.find? (fun e : DictEntry => Value.isStrOf (S x) e.key) es).map (·.val)) := by
  intro l
  induction l with
  | nil =>
    intro es h
    cases es with
    | nil => trivial
    | cons e es => exact h.elim
  | cons a r ih =>
    intro es h
    obtain ⟨a, n⟩ := a
    cases es with
    | nil => exact h.elim
    | cons e es =>
      obtain ⟨⟨hs, t, u, rfl⟩, h2⟩ := h
      rw [lookup_step, find_step]
      by_cases z : a = x
      · rw [if_pos z, if_pos z]
        exact ⟨u, rfl⟩
      · rw [if_neg z, if_neg z]
        exact ih h2
theorem ari_rel {P : Params} {es : Array DictEntry} (h : entsOf P ARI es.toList) : ∀ z, RelO (ariV z) (findBy Value.isStrOf es z) := by
  intro z
  have hz : S z.cps.toList = z := S_tl z
  have := ents_rel (x := z.cps.toList) h
  rw [hz] at this
  have e : ariV z = (ARI.lookup z.cps.toList).map fun n => V.int (Int.ofNat n) := by
    unfold ariV ari
    cases ARI.lookup z.cps.toList <;> rfl
  rw [e]
  unfold findBy
  rw [← Array.find?_toList]
  exact this
theorem kit_same {K : PySem.W.Frag} {C : Addr} : PySem.W.kitOne K (.ref C) (.ref C) = some true := by
  unfold PySem.W.kitOne
  rw [if_pos (by simp)]
theorem cls_some {K : PySem.W.Frag} {C : Addr} {oc : Value} {od : Option Addr} {cd : ClassData} {sl : Array (Option Value)} (h : K.lookup C = some ⟨oc, od, .cls cd, sl⟩) : (PySem.W.clsIn K C).isSome = true := by
  unfold PySem.W.clsIn
  rw [h] <;> rfl
theorem exm_mk {K : PySem.W.Frag} {C D : Addr} (hs : (PySem.W.clsIn K D).isSome = true) (ht : PySem.W.typeIn K (.ref D) = some (.type "type")) (hb : PySem.W.subIn K (.ref D) (.type "BaseException") = some true) (h : PySem.W.subIn K (.ref C) (.ref D) = some true) : PySem.W.exmOne K (.ref C) (.ref D) = some true := by
  unfold PySem.W.exmOne PySem.W.kitCls
  rw [if_pos (by rw [hb]; rfl)]
  dsimp only
  rw [if_pos (by rw [hs, ht]; rfl)]
  exact h
theorem kit_none {K : PySem.W.Frag} {D : Addr} (hs : (PySem.W.clsIn K D).isSome = true) (ht : PySem.W.typeIn K (.ref D) = some (.type "type")) : PySem.W.kitOne K (.type "NoneType") (.ref D) = some false := by
  unfold PySem.W.kitOne PySem.W.kitCls
  rw [if_neg (by simp)]
  dsimp only
  rw [if_pos (by rw [hs, ht]; rfl)]
  rfl
theorem kl_nil {P : Params} : PySem.W.KeysLit P [] := by rw [PySem.W.KeysLit.eq_1]; trivial
theorem kl_cons {P : Params} {e : DictEntry} {r : List DictEntry} (h : ∃ x t, e.key = Value.str x t ∧ e.hash = PySem.PyData.keyHash P x) (hr : PySem.W.KeysLit P r) : PySem.W.KeysLit P (e :: r) := by rw [PySem.W.KeysLit.eq_2]; exact ⟨h, hr⟩
theorem eo_nil {P : Params} : entsOf P [] [] := trivial
theorem eo_cons {P : Params} {a : Wd} {n : Nat} {l : List (Wd × Nat)} {e : DictEntry} {r : List DictEntry} (h : ∃ hs t u, e = ⟨hs, .str (S a) t, .int (Int.ofNat n) u⟩) (hr : entsOf P l r) : entsOf P ((a, n) :: l) (e :: r) := ⟨h, hr⟩
theorem at_end {l : PySem.W.OpenLaw} {w : World} {K : PySem.W.Frag} {h : Heap} {mg : Str → Option Value} {fa : Addr} (X : K.In h) (G : h.Ns mainGlobals mg) (hfa : mg "law" = some (.ref fa))
    {c Pt : Addr} {f9 : Addr} {od9 an9 : Option Addr} {sl9 : Array (Option Value)} {oc9 kV9 dc9 pm9 ct9 cd9 : Value} {f12 : Addr} {od12 an12 : Option Addr} {sl12 : Array (Option Value)} {oc12 kV12 dc12 pm12 ct12 cd12 : Value} {f13 : Addr} {od13 an13 : Option Addr} {sl13 : Array (Option Value)} {oc13 kV13 dc13 pm13 ct13 cd13 : Value} {f20 : Addr} {od20 an20 : Option Addr} {sl20 : Array (Option Value)} {oc20 kV20 dc20 pm20 ct20 cd20 : Value} {f21 : Addr} {od21 an21 : Option Addr} {sl21 : Array (Option Value)} {oc21 kV21 dc21 pm21 ct21 cd21 : Value} {f22 : Addr} {od22 an22 : Option Addr} {sl22 : Array (Option Value)} {oc22 kV22 dc22 pm22 ct22 cd22 : Value} {f23 : Addr} {od23 an23 : Option Addr} {sl23 : Array (Option Value)} {oc23 kV23 dc23 pm23 ct23 cd23 : Value} {f24 : Addr} {od24 an24 : Option Addr} {sl24 : Array (Option Value)} {oc24 kV24 dc24 pm24 ct24 cd24 : Value} {f25 : Addr} {od25 an25 : Option Addr} {sl25 : Array (Option Value)} {oc25 kV25 dc25 pm25 ct25 cd25 : Value} {f30 : Addr} {od30 an30 : Option Addr} {sl30 : Array (Option Value)} {oc30 kV30 dc30 pm30 ct30 cd30 : Value} {f31 : Addr} {od31 an31 : Option Addr} {sl31 : Array (Option Value)} {oc31 kV31 dc31 pm31 ct31 cd31 : Value} {f32 : Addr} {od32 an32 : Option Addr} {sl32 : Array (Option Value)} {oc32 kV32 dc32 pm32 ct32 cd32 : Value} {f38 : Addr} {od38 an38 : Option Addr} {sl38 : Array (Option Value)} {oc38 kV38 dc38 pm38 ct38 cd38 : Value} {f39 : Addr} {od39 an39 : Option Addr} {sl39 : Array (Option Value)} {oc39 kV39 dc39 pm39 ct39 cd39 : Value} {f40 : Addr} {od40 an40 : Option Addr} {sl40 : Array (Option Value)} {oc40 kV40 dc40 pm40 ct40 cd40 : Value} {f42 : Addr} {od42 an42 : Option Addr} {sl42 : Array (Option Value)} {oc42 kV42 dc42 pm42 ct42 cd42 : Value} {f44 : Addr} {od44 an44 : Option Addr} {sl44 : Array (Option Value)} {oc44 kV44 dc44 pm44 ct44 cd44 : Value} {f45 : Addr} {od45 an45 : Option Addr} {sl45 : Array (Option Value)} {oc45 kV45 dc45 pm45 ct45 cd45 : Value} {f46 : Addr} {od46 an46 : Option Addr} {sl46 : Array (Option Value)} {oc46 kV46 dc46 pm46 ct46 cd46 : Value} {f47 : Addr} {od47 an47 : Option Addr} {sl47 : Array (Option Value)} {oc47 kV47 dc47 pm47 ct47 cd47 : Value} {f48 : Addr} {od48 an48 : Option Addr} {sl48 : Array (Option Value)} {oc48 kV48 dc48 pm48 ct48 cd48 : Value} {f49 : Addr} {od49 an49 : Option Addr} {sl49 : Array (Option Value)} {oc49 kV49 dc49 pm49 ct49 cd49 : Value} {f41 : Addr} {od41 an41 : Option Addr} {sl41 : Array (Option Value)} {oc41 kV41 dc41 pm41 ct41 cd41 : Value} {f43 : Addr} {od43 an43 : Option Addr} {sl43 : Array (Option Value)} {oc43 kV43 dc43 pm43 ct43 : Value} {Ce fe : Addr} {ode ane : Option Addr} {sle : Array (Option Value)} {oce kVe dce pme cte cde : Value} {Cn fn : Addr} {odn ann : Option Addr} {sln : Array (Option Value)} {ocn kVn dcn pmn ctn cdn : Value} {Cl fl : Addr} {odl anl : Option Addr} {sll : Array (Option Value)} {ocl kVl dcl pml ctl cdl : Value} {Cg fg : Addr} {odg ang : Option Addr} {slg : Array (Option Value)} {ocg kVg dcg pmg ctg cdg : Value} {CB : Addr} {nmB qB : Str} {NB : Addr} {bsB bmB subB : List Value} {snB : List Str} {abB : Bool} {colB : Option Bool} {ddB : Option Addr} {k0B k1B k2B k3B k5B : Option Value} {zLE zFI : Str} {tLE tFI tDE tMW tMP : Tok} {pBI : Addr} {oBI : Option Addr} {itsBI : Array Value} {mBI : Nat} {sBI : Array (Option Value)} {pLW : Addr} {oLW : Option Addr} {itsLW : Array Value} {mLW : Nat} {sLW : Array (Option Value)} {pBW : Addr} {oBW : Option Addr} {itsBW : Array Value} {mBW : Nat} {sBW : Array (Option Value)} {pAR : Addr} {esAR : Array DictEntry} {mAR : Nat} {odc : Option Addr} {vsc : Array Value} {slc : Array (Option Value)} {filec : Str} {tfc tgc ttc : Tok} {flagsc textc : Int} {inFc : Bool}
    (a9 : PySem.W.nsIn K mainGlobals "is_text" = some (some (.ref f9)))
    (l9 : K.lookup f9 = some ⟨oc9, od9, .func (PySem.W.fnOf "is_text" "is_text" (C8.fnArgs (top 9)) (C8.fnBody (top 9)) (C8.fnScope (top 9)) .none kV9 dc9 pm9 an9 cd9 ct9), sl9⟩)
    (c9 : PySem.W.codeIn K cd9 "is_text" = true)
    (k9 : PySem.W.keepIn K (.ref f9) = true)
    (a12 : PySem.W.nsIn K mainGlobals "is_name" = some (some (.ref f12)))
    (l12 : K.lookup f12 = some ⟨oc12, od12, .func (PySem.W.fnOf "is_name" "is_name" (C8.fnArgs (top 12)) (C8.fnBody (top 12)) (C8.fnScope (top 12)) .none kV12 dc12 pm12 an12 cd12 ct12), sl12⟩)
    (c12 : PySem.W.codeIn K cd12 "is_name" = true)
    (k12 : PySem.W.keepIn K (.ref f12) = true)
    (a13 : PySem.W.nsIn K mainGlobals "integer_of" = some (some (.ref f13)))
    (l13 : K.lookup f13 = some ⟨oc13, od13, .func (PySem.W.fnOf "integer_of" "integer_of" (C8.fnArgs (top 13)) (C8.fnBody (top 13)) (C8.fnScope (top 13)) .none kV13 dc13 pm13 an13 cd13 ct13), sl13⟩)
    (c13 : PySem.W.codeIn K cd13 "integer_of" = true)
    (k13 : PySem.W.keepIn K (.ref f13) = true)
    (a20 : PySem.W.nsIn K mainGlobals "is_free" = some (some (.ref f20)))
    (l20 : K.lookup f20 = some ⟨oc20, od20, .func (PySem.W.fnOf "is_free" "is_free" (C8.fnArgs (top 20)) (C8.fnBody (top 20)) (C8.fnScope (top 20)) .none kV20 dc20 pm20 an20 cd20 ct20), sl20⟩)
    (c20 : PySem.W.codeIn K cd20 "is_free" = true)
    (k20 : PySem.W.keepIn K (.ref f20) = true)
    (a21 : PySem.W.nsIn K mainGlobals "read_expression" = some (some (.ref f21)))
    (l21 : K.lookup f21 = some ⟨oc21, od21, .func (PySem.W.fnOf "read_expression" "read_expression" (C8.fnArgs (top 21)) (C8.fnBody (top 21)) (C8.fnScope (top 21)) .none kV21 dc21 pm21 an21 cd21 ct21), sl21⟩)
    (c21 : PySem.W.codeIn K cd21 "read_expression" = true)
    (k21 : PySem.W.keepIn K (.ref f21) = true)
    (a22 : PySem.W.nsIn K mainGlobals "read_node" = some (some (.ref f22)))
    (l22 : K.lookup f22 = some ⟨oc22, od22, .func (PySem.W.fnOf "read_node" "read_node" (C8.fnArgs (top 22)) (C8.fnBody (top 22)) (C8.fnScope (top 22)) .none kV22 dc22 pm22 an22 cd22 ct22), sl22⟩)
    (c22 : PySem.W.codeIn K cd22 "read_node" = true)
    (k22 : PySem.W.keepIn K (.ref f22) = true)
    (a23 : PySem.W.nsIn K mainGlobals "is_written" = some (some (.ref f23)))
    (l23 : K.lookup f23 = some ⟨oc23, od23, .func (PySem.W.fnOf "is_written" "is_written" (C8.fnArgs (top 23)) (C8.fnBody (top 23)) (C8.fnScope (top 23)) .none kV23 dc23 pm23 an23 cd23 ct23), sl23⟩)
    (c23 : PySem.W.codeIn K cd23 "is_written" = true)
    (k23 : PySem.W.keepIn K (.ref f23) = true)
    (a24 : PySem.W.nsIn K mainGlobals "hang" = some (some (.ref f24)))
    (l24 : K.lookup f24 = some ⟨oc24, od24, .func (PySem.W.fnOf "hang" "hang" (C8.fnArgs (top 24)) (C8.fnBody (top 24)) (C8.fnScope (top 24)) .none kV24 dc24 pm24 an24 cd24 ct24), sl24⟩)
    (c24 : PySem.W.codeIn K cd24 "hang" = true)
    (k24 : PySem.W.keepIn K (.ref f24) = true)
    (a25 : PySem.W.nsIn K mainGlobals "bind" = some (some (.ref f25)))
    (l25 : K.lookup f25 = some ⟨oc25, od25, .func (PySem.W.fnOf "bind" "bind" (C8.fnArgs (top 25)) (C8.fnBody (top 25)) (C8.fnScope (top 25)) .none kV25 dc25 pm25 an25 cd25 ct25), sl25⟩)
    (c25 : PySem.W.codeIn K cd25 "bind" = true)
    (k25 : PySem.W.keepIn K (.ref f25) = true)
    (a30 : PySem.W.nsIn K mainGlobals "read_program" = some (some (.ref f30)))
    (l30 : K.lookup f30 = some ⟨oc30, od30, .func (PySem.W.fnOf "read_program" "read_program" (C8.fnArgs (top 30)) (C8.fnBody (top 30)) (C8.fnScope (top 30)) .none kV30 dc30 pm30 an30 cd30 ct30), sl30⟩)
    (c30 : PySem.W.codeIn K cd30 "read_program" = true)
    (k30 : PySem.W.keepIn K (.ref f30) = true)
    (a31 : PySem.W.nsIn K mainGlobals "read_line" = some (some (.ref f31)))
    (l31 : K.lookup f31 = some ⟨oc31, od31, .func (PySem.W.fnOf "read_line" "read_line" (C8.fnArgs (top 31)) (C8.fnBody (top 31)) (C8.fnScope (top 31)) .none kV31 dc31 pm31 an31 cd31 ct31), sl31⟩)
    (c31 : PySem.W.codeIn K cd31 "read_line" = true)
    (k31 : PySem.W.keepIn K (.ref f31) = true)
    (a32 : PySem.W.nsIn K mainGlobals "can_stand" = some (some (.ref f32)))
    (l32 : K.lookup f32 = some ⟨oc32, od32, .func (PySem.W.fnOf "can_stand" "can_stand" (C8.fnArgs (top 32)) (C8.fnBody (top 32)) (C8.fnScope (top 32)) .none kV32 dc32 pm32 an32 cd32 ct32), sl32⟩)
    (c32 : PySem.W.codeIn K cd32 "can_stand" = true)
    (k32 : PySem.W.keepIn K (.ref f32) = true)
    (a38 : PySem.W.nsIn K mainGlobals "_law_pot" = some (some (.ref f38)))
    (l38 : K.lookup f38 = some ⟨oc38, od38, .func (PySem.W.fnOf "_law_pot" "_law_pot" (C8.fnArgs (top 38)) (C8.fnBody (top 38)) (C8.fnScope (top 38)) .none kV38 dc38 pm38 an38 cd38 ct38), sl38⟩)
    (c38 : PySem.W.codeIn K cd38 "_law_pot" = true)
    (k38 : PySem.W.keepIn K (.ref f38) = true)
    (a39 : PySem.W.nsIn K mainGlobals "_law_take" = some (some (.ref f39)))
    (l39 : K.lookup f39 = some ⟨oc39, od39, .func (PySem.W.fnOf "_law_take" "_law_take" (C8.fnArgs (top 39)) (C8.fnBody (top 39)) (C8.fnScope (top 39)) .none kV39 dc39 pm39 an39 cd39 ct39), sl39⟩)
    (c39 : PySem.W.codeIn K cd39 "_law_take" = true)
    (k39 : PySem.W.keepIn K (.ref f39) = true)
    (a40 : PySem.W.nsIn K mainGlobals "_law_of" = some (some (.ref f40)))
    (l40 : K.lookup f40 = some ⟨oc40, od40, .func (PySem.W.fnOf "_law_of" "_law_of" (C8.fnArgs (top 40)) (C8.fnBody (top 40)) (C8.fnScope (top 40)) .none kV40 dc40 pm40 an40 cd40 ct40), sl40⟩)
    (c40 : PySem.W.codeIn K cd40 "_law_of" = true)
    (k40 : PySem.W.keepIn K (.ref f40) = true)
    (a42 : PySem.W.nsIn K mainGlobals "_law_odd" = some (some (.ref f42)))
    (l42 : K.lookup f42 = some ⟨oc42, od42, .func (PySem.W.fnOf "_law_odd" "_law_odd" (C8.fnArgs (top 42)) (C8.fnBody (top 42)) (C8.fnScope (top 42)) .none kV42 dc42 pm42 an42 cd42 ct42), sl42⟩)
    (c42 : PySem.W.codeIn K cd42 "_law_odd" = true)
    (k42 : PySem.W.keepIn K (.ref f42) = true)
    (a44 : PySem.W.nsIn K mainGlobals "_law_deep" = some (some (.ref f44)))
    (l44 : K.lookup f44 = some ⟨oc44, od44, .func (PySem.W.fnOf "_law_deep" "_law_deep" (C8.fnArgs (top 44)) (C8.fnBody (top 44)) (C8.fnScope (top 44)) .none kV44 dc44 pm44 an44 cd44 ct44), sl44⟩)
    (c44 : PySem.W.codeIn K cd44 "_law_deep" = true)
    (k44 : PySem.W.keepIn K (.ref f44) = true)
    (a45 : PySem.W.nsIn K mainGlobals "_law_are_bounds_right" = some (some (.ref f45)))
    (l45 : K.lookup f45 = some ⟨oc45, od45, .func (PySem.W.fnOf "_law_are_bounds_right" "_law_are_bounds_right" (C8.fnArgs (top 45)) (C8.fnBody (top 45)) (C8.fnScope (top 45)) .none kV45 dc45 pm45 an45 cd45 ct45), sl45⟩)
    (c45 : PySem.W.codeIn K cd45 "_law_are_bounds_right" = true)
    (k45 : PySem.W.keepIn K (.ref f45) = true)
    (a46 : PySem.W.nsIn K mainGlobals "_law_wide" = some (some (.ref f46)))
    (l46 : K.lookup f46 = some ⟨oc46, od46, .func (PySem.W.fnOf "_law_wide" "_law_wide" (C8.fnArgs (top 46)) (C8.fnBody (top 46)) (C8.fnScope (top 46)) .none kV46 dc46 pm46 an46 cd46 ct46), sl46⟩)
    (c46 : PySem.W.codeIn K cd46 "_law_wide" = true)
    (k46 : PySem.W.keepIn K (.ref f46) = true)
    (a47 : PySem.W.nsIn K mainGlobals "_law_rows" = some (some (.ref f47)))
    (l47 : K.lookup f47 = some ⟨oc47, od47, .func (PySem.W.fnOf "_law_rows" "_law_rows" (C8.fnArgs (top 47)) (C8.fnBody (top 47)) (C8.fnScope (top 47)) .none kV47 dc47 pm47 an47 cd47 ct47), sl47⟩)
    (c47 : PySem.W.codeIn K cd47 "_law_rows" = true)
    (k47 : PySem.W.keepIn K (.ref f47) = true)
    (a48 : PySem.W.nsIn K mainGlobals "_law_right" = some (some (.ref f48)))
    (l48 : K.lookup f48 = some ⟨oc48, od48, .func (PySem.W.fnOf "_law_right" "_law_right" (C8.fnArgs (top 48)) (C8.fnBody (top 48)) (C8.fnScope (top 48)) .none kV48 dc48 pm48 an48 cd48 ct48), sl48⟩)
    (c48 : PySem.W.codeIn K cd48 "_law_right" = true)
    (k48 : PySem.W.keepIn K (.ref f48) = true)
    (a49 : PySem.W.nsIn K mainGlobals "law" = some (some (.ref f49)))
    (l49 : K.lookup f49 = some ⟨oc49, od49, .func (PySem.W.fnOf "law" "law" (C8.fnArgs (top 49)) (C8.fnBody (top 49)) (C8.fnScope (top 49)) .none kV49 dc49 pm49 an49 cd49 ct49), sl49⟩)
    (c49 : PySem.W.codeIn K cd49 "law" = true)
    (k49 : PySem.W.keepIn K (.ref f49) = true)
    (a41 : PySem.W.nsIn K mainGlobals "_law_caught" = some (some (.ref f41)))
    (l41 : K.lookup f41 = some ⟨oc41, od41, .func (PySem.W.fnOf "_law_caught" "_law_caught" (C8.fnArgs (top 41)) (C8.fnBody (top 41)) (C8.fnScope (top 41)) .none kV41 dc41 pm41 an41 cd41 ct41), sl41⟩)
    (c41 : PySem.W.codeIn K cd41 "_law_caught" = true)
    (k41 : PySem.W.keepIn K (.ref f41) = true)
    (a43 : PySem.W.nsIn K mainGlobals "_law_number_of" = some (some (.ref f43)))
    (l43 : K.lookup f43 = some ⟨oc43, od43, .func (PySem.W.fnOf "_law_number_of" "_law_number_of" (C8.fnArgs (top 43)) (C8.fnBody (top 43)) (C8.fnScope (top 43)) .none kV43 dc43 pm43 an43 (.ref c) ct43), sl43⟩)
    (c43 : PySem.W.codeIn K (.ref c) "_law_number_of" = true)
    (k43 : PySem.W.keepIn K (.ref f43) = true)
    (Ae : PySem.W.nsIn K mainGlobals "UseError" = some (some (.ref Ce)))
    (Ie : PySem.W.findIn K (.ref Ce) "__init__" = some (some (.ref fe)))
    (le : K.lookup fe = some ⟨oce, ode, .func (PySem.W.fnOf "__init__" "UseError.__init__" (C8.fnArgs sErr) (C8.fnBody sErr) (C8.fnScope sErr) .none kVe dce pme ane cde cte), sle⟩)
    (ce : PySem.W.codeIn K cde "UseError.__init__" = true)
    (An : PySem.W.nsIn K mainGlobals "Node" = some (some (.ref Cn)))
    (In : PySem.W.findIn K (.ref Cn) "__init__" = some (some (.ref fn)))
    (ln : K.lookup fn = some ⟨ocn, odn, .func (PySem.W.fnOf "__init__" "Node.__init__" (C8.fnArgs sNode) (C8.fnBody sNode) (C8.fnScope sNode) .none kVn dcn pmn ann cdn ctn), sln⟩)
    (cn : PySem.W.codeIn K cdn "Node.__init__" = true)
    (pgn : PySem.W.plainGet K Cn Str.empty = true)
    (hdn : PySem.W.hasDictIn K Cn = true)
    (pon : PySem.W.plainOver K Cn = true)
    (san : PySem.W.findIn K (.ref Cn) "__setattr__" = some (some (.builtin "object.__setattr__")))
    (mkn : PySem.W.makesIn K Cn = true)
    (fin_ : PySem.W.isFn K (.ref fn) = true)
    (kpn : PySem.W.keepIn K (.ref Cn) = true)
    (nn0 : PySem.W.findIn K (.ref Cn) "place" = some none)
    (nn1 : PySem.W.findIn K (.ref Cn) "sign" = some none)
    (nn2 : PySem.W.findIn K (.ref Cn) "kind" = some none)
    (nn3 : PySem.W.findIn K (.ref Cn) "named" = some none)
    (nn4 : PySem.W.findIn K (.ref Cn) "outer" = some none)
    (nn5 : PySem.W.findIn K (.ref Cn) "within" = some none)
    (nn6 : PySem.W.findIn K (.ref Cn) "binder" = some none)
    (nn7 : PySem.W.findIn K (.ref Cn) "level" = some none)
    (Al : PySem.W.nsIn K mainGlobals "Line" = some (some (.ref Cl)))
    (Il : PySem.W.findIn K (.ref Cl) "__init__" = some (some (.ref fl)))
    (ll : K.lookup fl = some ⟨ocl, odl, .func (PySem.W.fnOf "__init__" "Line.__init__" (C8.fnArgs sLine) (C8.fnBody sLine) (C8.fnScope sLine) .none kVl dcl pml anl cdl ctl), sll⟩)
    (cl : PySem.W.codeIn K cdl "Line.__init__" = true)
    (pgl : PySem.W.plainGet K Cl Str.empty = true)
    (hdl : PySem.W.hasDictIn K Cl = true)
    (pol : PySem.W.plainOver K Cl = true)
    (sal : PySem.W.findIn K (.ref Cl) "__setattr__" = some (some (.builtin "object.__setattr__")))
    (mkl : PySem.W.makesIn K Cl = true)
    (fil : PySem.W.isFn K (.ref fl) = true)
    (kpl : PySem.W.keepIn K (.ref Cl) = true)
    (nl0 : PySem.W.findIn K (.ref Cl) "name" = some none)
    (nl1 : PySem.W.findIn K (.ref Cl) "told" = some none)
    (nl2 : PySem.W.findIn K (.ref Cl) "nodes" = some none)
    (nl3 : PySem.W.findIn K (.ref Cl) "names" = some none)
    (Ag : PySem.W.nsIn K mainGlobals "Program" = some (some (.ref Cg)))
    (Ig : PySem.W.findIn K (.ref Cg) "__init__" = some (some (.ref fg)))
    (lg : K.lookup fg = some ⟨ocg, odg, .func (PySem.W.fnOf "__init__" "Program.__init__" (C8.fnArgs sProg) (C8.fnBody sProg) (C8.fnScope sProg) .none kVg dcg pmg ang cdg ctg), slg⟩)
    (cg : PySem.W.codeIn K cdg "Program.__init__" = true)
    (pgg : PySem.W.plainGet K Cg Str.empty = true)
    (hdg : PySem.W.hasDictIn K Cg = true)
    (pog : PySem.W.plainOver K Cg = true)
    (sag : PySem.W.findIn K (.ref Cg) "__setattr__" = some (some (.builtin "object.__setattr__")))
    (mkg : PySem.W.makesIn K Cg = true)
    (fig_ : PySem.W.isFn K (.ref fg) = true)
    (kpg : PySem.W.keepIn K (.ref Cg) = true)
    (ng0 : PySem.W.findIn K (.ref Cg) "_text" = some none)
    (ng1 : PySem.W.findIn K (.ref Cg) "_lines" = some none)
    (ng2 : PySem.W.findIn K (.ref Cg) "_parts" = some none)
    (ng3 : PySem.W.findIn K (.ref Cg) "nodes" = some none)
    (ng4 : PySem.W.findIn K (.ref Cg) "_places" = some none)
    (ng5 : PySem.W.findIn K (.ref Cg) "_bindings" = some none)
    (mron : PySem.W.mroIn K Cn (.type "object") = some true)
    (eqn : PySem.W.findIn K (.ref Cn) "__eq__" = some (some (.builtin "object.__eq__")))
    (AB : PySem.W.nsIn K mainGlobals "BadProgram" = some (some (.ref CB)))
    (lB : K.lookup CB = some (excClassObj nmB qB CB NB bsB bmB true snB subB abB colB ddB k0B k1B k2B k3B k5B "ValueError.__new__"))
    (rB : PySem.HandSPX.refsVE bmB = true)
    (saB : PySem.W.findIn K (.ref CB) "__setattr__" = some (some (.builtin "object.__setattr__")))
    (exB : PySem.W.subIn K (.ref CB) (.type "BaseException") = some true)
    (tyB : PySem.W.typeIn K (.ref CB) = some (.type "type"))
    (kpB : PySem.W.keepIn K (.ref CB) = true)
    (iB : PySem.W.findIn K (.ref CB) "__init__" = some (some (.ref fe)))
    (tB : PySem.W.typeIn K (.ref fe) = some (.type "function"))
    (nvB : PySem.W.findIn K (.ref CB) "value" = some none)
    (isS : PySem.W.isClsIn K Ce = true)
    (tyS : PySem.W.typeIn K (.ref Ce) = some (.type "type"))
    (bS : PySem.W.subIn K (.ref Ce) (.type "BaseException") = some true)
    (sBS : PySem.W.subIn K (.ref CB) (.ref Ce) = some true)
    (gaB : PySem.W.findIn K (.ref CB) "__getattribute__" = some (some (.builtin "BaseException.__getattribute__")))
    (ggB : PySem.W.findIn K (.ref CB) "__getattr__" = some none)
    (hdB : PySem.W.hasDictIn K CB = true)
    (clB : PySem.W.findIn K (.ref CB) "__class__" = some (some (.builtin "object.__class__")))
    (spB : PySem.W.specialIn K (.builtin "object.__class__") "__get__" = some (some (.builtin "getset_descriptor.__get__")))
    (tkB : PySem.W.takesIn K (.builtin "object.__class__") = some true)
    (mrB : PySem.W.mroIn K CB (.type "object") = some true)
    (z_type : PySem.W.nsIn K mainGlobals "type" = some none)
    (z_str : PySem.W.nsIn K mainGlobals "str" = some none)
    (z_len : PySem.W.nsIn K mainGlobals "len" = some none)
    (z_all : PySem.W.nsIn K mainGlobals "all" = some none)
    (z_any : PySem.W.nsIn K mainGlobals "any" = some none)
    (z_int : PySem.W.nsIn K mainGlobals "int" = some none)
    (z_enumerate : PySem.W.nsIn K mainGlobals "enumerate" = some none)
    (z_tuple : PySem.W.nsIn K mainGlobals "tuple" = some none)
    (z_list : PySem.W.nsIn K mainGlobals "list" = some none)
    (z_isinstance : PySem.W.nsIn K mainGlobals "isinstance" = some none)
    (z_sum : PySem.W.nsIn K mainGlobals "sum" = some none)
    (z_abs : PySem.W.nsIn K mainGlobals "abs" = some none)
    (z_repr : PySem.W.nsIn K mainGlobals "repr" = some none)
    (z_range : PySem.W.nsIn K mainGlobals "range" = some none)
    (aLE : PySem.W.nsIn K mainGlobals "LETTERS" = some (some (.str zLE tLE)))
    (eLE : zLE = S LET)
    (aFI : PySem.W.nsIn K mainGlobals "FIGURES" = some (some (.str zFI tFI)))
    (eFI : zFI = S FIG)
    (aDE : PySem.W.nsIn K mainGlobals "DEEPEST" = some (some (.int 30 tDE)))
    (aMW : PySem.W.nsIn K mainGlobals "MOST_WORDS" = some (some (.int 120 tMW)))
    (aMP : PySem.W.nsIn K mainGlobals "MOST_PARTS" = some (some (.int 12 tMP)))
    (aBI : PySem.W.nsIn K mainGlobals "BINDERS" = some (some (.ref pBI)))
    (lBI : K.lookup pBI = some ⟨.type "tuple", oBI, .seq itsBI mBI, sBI⟩)
    (zBI : itsBI.size ≤ 100)
    (vBI : Vals [.str (S [102, 117, 110]), .str (S [108, 101, 116])] itsBI.toList)
    (aLW : PySem.W.nsIn K mainGlobals "LINE_WORDS" = some (some (.ref pLW)))
    (lLW : K.lookup pLW = some ⟨.type "tuple", oLW, .seq itsLW mLW, sLW⟩)
    (zLW : itsLW.size ≤ 100)
    (vLW : Vals [.str (S [112, 97, 114, 116]), .str (S [114, 117, 110])] itsLW.toList)
    (aBW : PySem.W.nsIn K mainGlobals "BINDING_WORDS" = some (some (.ref pBW)))
    (lBW : K.lookup pBW = some ⟨.type "tuple", oBW, .seq itsBW mBW, sBW⟩)
    (zBW : itsBW.size ≤ 100)
    (vBW : Vals [.str (S [99, 97, 108, 108]), .str (S [108, 101, 116]), .str (S [112, 97, 105, 114])] itsBW.toList)
    (aAR : PySem.W.nsIn K mainGlobals "ARITIES" = some (some (.ref pAR)))
    (lAR : K.lookup pAR = some ⟨.type "dict", none, .dict esAR mAR, #[]⟩)
    (vAR : PySem.W.KeysLit w.params esAR.toList)
    (sAR : (pAR == sysModules) = false)
    (eAR : entsOf w.params ARI esAR.toList)
    (lc : K.lookup c = some ⟨.type "code", odc, .fields vsc, slc⟩)
    (v11 : vsc[11]? = some (.ref Pt))
    (v11b : vsc.getD 11 .none = .ref Pt)
    (v18 : vsc.getD 18 .none = .str filec tfc)
    (v7 : vsc.getD 7 .none = .int flagsc tgc)
    (v9 : vsc.getD 9 .none = .bool inFc)
    (v10 : vsc.getD 10 .none = .int textc ttc)
    (ncP : c ≠ Pt)
    (nP : K.lookup Pt = none)
    (hP : h.get? Pt = some { cls := .none, data := .fields #[] }) :
    LamX.LawAtS l w K C8.CX0 14 63 "script" mg fa h := by
  have e := hfa.symm.trans (PySem.W.mg_of X G a49)
  cases e
  have T : Txt3 K w mg :=
    { type_ := (PySem.W.mg_none_of X G z_type), str_ := (PySem.W.mg_none_of X G z_str), len_ := (PySem.W.mg_none_of X G z_len), all_ := (PySem.W.mg_none_of X G z_all), any_ := (PySem.W.mg_none_of X G z_any), int_ := (PySem.W.mg_none_of X G z_int), enum_ := (PySem.W.mg_none_of X G z_enumerate), tuple_ := (PySem.W.mg_none_of X G z_tuple), list_ := (PySem.W.mg_none_of X G z_list), isi_ := (PySem.W.mg_none_of X G z_isinstance), sum_ := (PySem.W.mg_none_of X G z_sum), abs_ := (PySem.W.mg_none_of X G z_abs), repr_ := (PySem.W.mg_none_of X G z_repr), range_ := (PySem.W.mg_none_of X G z_range),
      let_ := ⟨_, PySem.W.mg_of X G aLE, by rw [eLE]; exact ⟨_, rfl⟩⟩, fig_ := ⟨_, PySem.W.mg_of X G aFI, by rw [eFI]; exact ⟨_, rfl⟩⟩,
      ari_ := ⟨pAR, PySem.W.mg_of X G aAR, esAR, mAR, lAR, vAR, sAR, ari_rel eAR⟩,
      lwords := ⟨pLW, PySem.W.mg_of X G aLW, fun H => .inr ⟨_, _, _, lLW, rfl, rfl, by rw [sizeLine_eq]; omega, vLW⟩⟩,
      binders := ⟨pBI, PySem.W.mg_of X G aBI, fun H => .inr ⟨_, _, _, lBI, rfl, rfl, by rw [sizeLine_eq]; omega, vBI⟩⟩,
      deep := ⟨_, PySem.W.mg_of X G aDE⟩, mostW := ⟨_, PySem.W.mg_of X G aMW⟩, mostP := ⟨_, PySem.W.mg_of X G aMP⟩,
      bwords := ⟨pBW, PySem.W.mg_of X G aBW, fun H => .inr ⟨_, _, _, lBW, rfl, rfl, by rw [sizeLine_eq]; omega, vBW⟩⟩ }
  have U : NumC K mg Ce CB := ⟨(PySem.W.mg_of X G Ae), (PySem.W.mg_of X G AB), exm_mk isS tyS bS sBS, kit_same, kit_none (cls_some lB) tyB, ⟨gaB, ggB, exB, hdB, clB, spB, tkB, mrB⟩, ⟨gaB, ggB, exB, hdB⟩, nvB⟩
  have N : NodeC K mg Cn := ⟨⟨pgn, hdn, pon, san⟩, (PySem.W.mg_of X G An), nn0, nn1, nn2, nn3, nn4, nn5, nn6, nn7, ⟨mron, eqn⟩⟩
  have L : LineC K mg Cl := ⟨⟨pgl, hdl, pol, sal⟩, (PySem.W.mg_of X G Al), nl0, nl1, nl2, nl3⟩
  have GP : ProgC K mg Cg := ⟨⟨pgg, hdg, pog, sag⟩, (PySem.W.mg_of X G Ag), ng0, ng1, ng2, ng3, ng4, ng5⟩
  have B : ErrC K mg "BadProgram" CB fe := ⟨(PySem.W.mg_of X G AB), ⟨⟨nmB, qB, NB, bsB, bmB, snB, subB, abB, colB, ddB, k0B, k1B, k2B, k3B, k5B, lB, rB⟩, saB, exB, tyB, kpB⟩, iB, tB, nvB⟩
  have d9 : C8.Def K mg "is_text" (top 9) f9 _ := ⟨⟨_, _, _, _, _, _, _, _, _, _, rfl, l9, c9⟩, (PySem.W.mg_of X G a9), k9⟩
  have d12 : C8.Def K mg "is_name" (top 12) f12 _ := ⟨⟨_, _, _, _, _, _, _, _, _, _, rfl, l12, c12⟩, (PySem.W.mg_of X G a12), k12⟩
  have d13 : C8.Def K mg "integer_of" (top 13) f13 _ := ⟨⟨_, _, _, _, _, _, _, _, _, _, rfl, l13, c13⟩, (PySem.W.mg_of X G a13), k13⟩
  have d20 : C8.Def K mg "is_free" (top 20) f20 _ := ⟨⟨_, _, _, _, _, _, _, _, _, _, rfl, l20, c20⟩, (PySem.W.mg_of X G a20), k20⟩
  have d21 : C8.Def K mg "read_expression" (top 21) f21 _ := ⟨⟨_, _, _, _, _, _, _, _, _, _, rfl, l21, c21⟩, (PySem.W.mg_of X G a21), k21⟩
  have d22 : C8.Def K mg "read_node" (top 22) f22 _ := ⟨⟨_, _, _, _, _, _, _, _, _, _, rfl, l22, c22⟩, (PySem.W.mg_of X G a22), k22⟩
  have d23 : C8.Def K mg "is_written" (top 23) f23 _ := ⟨⟨_, _, _, _, _, _, _, _, _, _, rfl, l23, c23⟩, (PySem.W.mg_of X G a23), k23⟩
  have d24 : C8.Def K mg "hang" (top 24) f24 _ := ⟨⟨_, _, _, _, _, _, _, _, _, _, rfl, l24, c24⟩, (PySem.W.mg_of X G a24), k24⟩
  have d25 : C8.Def K mg "bind" (top 25) f25 _ := ⟨⟨_, _, _, _, _, _, _, _, _, _, rfl, l25, c25⟩, (PySem.W.mg_of X G a25), k25⟩
  have d30 : C8.Def K mg "read_program" (top 30) f30 _ := ⟨⟨_, _, _, _, _, _, _, _, _, _, rfl, l30, c30⟩, (PySem.W.mg_of X G a30), k30⟩
  have d31 : C8.Def K mg "read_line" (top 31) f31 _ := ⟨⟨_, _, _, _, _, _, _, _, _, _, rfl, l31, c31⟩, (PySem.W.mg_of X G a31), k31⟩
  have d32 : C8.Def K mg "can_stand" (top 32) f32 _ := ⟨⟨_, _, _, _, _, _, _, _, _, _, rfl, l32, c32⟩, (PySem.W.mg_of X G a32), k32⟩
  have d38 : C8.Def K mg "_law_pot" (top 38) f38 _ := ⟨⟨_, _, _, _, _, _, _, _, _, _, rfl, l38, c38⟩, (PySem.W.mg_of X G a38), k38⟩
  have d39 : C8.Def K mg "_law_take" (top 39) f39 _ := ⟨⟨_, _, _, _, _, _, _, _, _, _, rfl, l39, c39⟩, (PySem.W.mg_of X G a39), k39⟩
  have d40 : C8.Def K mg "_law_of" (top 40) f40 _ := ⟨⟨_, _, _, _, _, _, _, _, _, _, rfl, l40, c40⟩, (PySem.W.mg_of X G a40), k40⟩
  have d42 : C8.Def K mg "_law_odd" (top 42) f42 _ := ⟨⟨_, _, _, _, _, _, _, _, _, _, rfl, l42, c42⟩, (PySem.W.mg_of X G a42), k42⟩
  have d44 : C8.Def K mg "_law_deep" (top 44) f44 _ := ⟨⟨_, _, _, _, _, _, _, _, _, _, rfl, l44, c44⟩, (PySem.W.mg_of X G a44), k44⟩
  have d45 : C8.Def K mg "_law_are_bounds_right" (top 45) f45 _ := ⟨⟨_, _, _, _, _, _, _, _, _, _, rfl, l45, c45⟩, (PySem.W.mg_of X G a45), k45⟩
  have d46 : C8.Def K mg "_law_wide" (top 46) f46 _ := ⟨⟨_, _, _, _, _, _, _, _, _, _, rfl, l46, c46⟩, (PySem.W.mg_of X G a46), k46⟩
  have d47 : C8.Def K mg "_law_rows" (top 47) f47 _ := ⟨⟨_, _, _, _, _, _, _, _, _, _, rfl, l47, c47⟩, (PySem.W.mg_of X G a47), k47⟩
  have d48 : C8.Def K mg "_law_right" (top 48) f48 _ := ⟨⟨_, _, _, _, _, _, _, _, _, _, rfl, l48, c48⟩, (PySem.W.mg_of X G a48), k48⟩
  have de : C8.Fun K "__init__" "UseError.__init__" sErr fe _ := ⟨_, _, _, _, _, _, _, _, _, _, rfl, le, ce⟩
  have dn : C8.Fun K "__init__" "Node.__init__" sNode fn _ := ⟨_, _, _, _, _, _, _, _, _, _, rfl, ln, cn⟩
  have dl : C8.Fun K "__init__" "Line.__init__" sLine fl _ := ⟨_, _, _, _, _, _, _, _, _, _, rfl, ll, cl⟩
  have dg : C8.Fun K "__init__" "Program.__init__" sProg fg _ := ⟨_, _, _, _, _, _, _, _, _, _, rfl, lg, cg⟩
  have d49 : C8.Fun K "law" "law" (top 49) fa _ := ⟨_, _, _, _, _, _, _, _, _, _, rfl, l49, c49⟩
  refine ⟨_, [(c, Pt)], spLaw K Pt, fun p hp => ?_, fun p hp => ?_, fun p hp => ?_, fun s v => .of_eq rfl, fun H a ns hn _ hcs hS => ⟨a, ns, rfl, hS, hn, fun r hr => ?_, fun _ => rfl⟩, fun base KB GB hTB => assemble T U N L GP d9 rfl d12 rfl d13 rfl d20 rfl d21 rfl d22 rfl d23 rfl d24 rfl d25 rfl d30 rfl d31 rfl d32 rfl d38 rfl d39 rfl d40 rfl d42 rfl d44 rfl d45 rfl d46 rfl d47 rfl d48 rfl de rfl dn rfl dl rfl dg rfl d49 B ⟨mkn, In, fin_, kpn⟩ ⟨mkl, Il, fil, kpl⟩ ⟨mkg, Ig, fig_, kpg⟩ l43 c43 (PySem.W.mg_of X G a43) k43 (hTB (c, Pt) (List.mem_singleton.mpr rfl)) l41 c41 (PySem.W.mg_of X G a41) k41⟩
  · rw [List.mem_singleton.mp hp]; exact hP
  · rw [List.mem_singleton.mp hp]; exact nP
  · rw [List.mem_singleton.mp hp]
    exact ⟨_, vsc, filec, tfc, flagsc, tgc, inFc, textc, ttc, X _ _ lc, rfl, rfl, v11, v11b, v18, v7, v9, v10, ncP⟩
  · rw [List.mem_singleton.mp hr]
    exact LamX.TabS.nil (hcs (c, Pt) (List.mem_singleton.mpr rfl))
end K5
open PySem PySem.W PyProof.Rows
set_option Elab.async false
set_option linter.all false
set_option maxRecDepth 100000 in
set_option maxHeartbeats 0 in
theorem PySem.Challenge.cw_uselots_k05_what_is_no_program_holds : PySem.Challenge.rw_uselots_k05_what_is_no_program.Holds := by
  w_on; o_law; k_head; (case hw => w_witness2)
  k_fill
  refine LamX.walk_ofTs (l := PySem.Challenge.rw_uselots_k05_what_is_no_program) (n := 63) (k := 14) (x := "script") (CX := fun _ => C8.CX0) rfl (by decide) rfl ⟨rfl, by decide, by decide⟩ (fun w h Y => PySem.W.km_in_of Y) ?F (fun _ _ _ _ _ z => z)
  case F =>
    intro w mg fa h Y KX G hmg
    refine' K5.at_end KX G hmg ?k5a9 ?k5l9 ?k5c9 ?k5k9 ?k5a12 ?k5l12 ?k5c12 ?k5k12 ?k5a13 ?k5l13 ?k5c13 ?k5k13 ?k5a20 ?k5l20 ?k5c20 ?k5k20 ?k5a21 ?k5l21 ?k5c21 ?k5k21 ?k5a22 ?k5l22 ?k5c22 ?k5k22 ?k5a23 ?k5l23 ?k5c23 ?k5k23 ?k5a24 ?k5l24 ?k5c24 ?k5k24 ?k5a25 ?k5l25 ?k5c25 ?k5k25 ?k5a30 ?k5l30 ?k5c30 ?k5k30 ?k5a31 ?k5l31 ?k5c31 ?k5k31 ?k5a32 ?k5l32 ?k5c32 ?k5k32 ?k5a38 ?k5l38 ?k5c38 ?k5k38 ?k5a39 ?k5l39 ?k5c39 ?k5k39 ?k5a40 ?k5l40 ?k5c40 ?k5k40 ?k5a42 ?k5l42 ?k5c42 ?k5k42 ?k5a44 ?k5l44 ?k5c44 ?k5k44 ?k5a45 ?k5l45 ?k5c45 ?k5k45 ?k5a46 ?k5l46 ?k5c46 ?k5k46 ?k5a47 ?k5l47 ?k5c47 ?k5k47 ?k5a48 ?k5l48 ?k5c48 ?k5k48 ?k5a49 ?k5l49 ?k5c49 ?k5k49 ?k5a41 ?k5l41 ?k5c41 ?k5k41 ?k5a43 ?k5l43 ?k5c43 ?k5k43 ?k5Ae ?k5Ie ?k5le ?k5ce ?k5An ?k5In ?k5ln ?k5cn ?k5pgn ?k5hdn ?k5pon ?k5san ?k5mkn ?k5fin_ ?k5kpn ?k5nn0 ?k5nn1 ?k5nn2 ?k5nn3 ?k5nn4 ?k5nn5 ?k5nn6 ?k5nn7 ?k5Al ?k5Il ?k5ll ?k5cl ?k5pgl ?k5hdl ?k5pol ?k5sal ?k5mkl ?k5fil ?k5kpl ?k5nl0 ?k5nl1 ?k5nl2 ?k5nl3 ?k5Ag ?k5Ig ?k5lg ?k5cg ?k5pgg ?k5hdg ?k5pog ?k5sag ?k5mkg ?k5fig_ ?k5kpg ?k5ng0 ?k5ng1 ?k5ng2 ?k5ng3 ?k5ng4 ?k5ng5 ?k5mron ?k5eqn ?k5AB ?k5lB ?k5rB ?k5saB ?k5exB ?k5tyB ?k5kpB ?k5iB ?k5tB ?k5nvB ?k5isS ?k5tyS ?k5bS ?k5sBS ?k5gaB ?k5ggB ?k5hdB ?k5clB ?k5spB ?k5tkB ?k5mrB ?k5z_type ?k5z_str ?k5z_len ?k5z_all ?k5z_any ?k5z_int ?k5z_enumerate ?k5z_tuple ?k5z_list ?k5z_isinstance ?k5z_sum ?k5z_abs ?k5z_repr ?k5z_range ?k5aLE ?k5eLE ?k5aFI ?k5eFI ?k5aDE ?k5aMW ?k5aMP ?k5aBI ?k5lBI ?k5zBI ?k5vBI ?k5aLW ?k5lLW ?k5zLW ?k5vLW ?k5aBW ?k5lBW ?k5zBW ?k5vBW ?k5aAR ?k5lAR ?k5vAR ?k5sAR ?k5eAR ?k5lc ?k5v11 ?k5v11b ?k5v18 ?k5v7 ?k5v9 ?k5v10 ?k5ncP ?k5nP ?k5hP
    (case k5a9 => k_is)
    (case k5l9 => k_is)
    (case k5c9 => k_is)
    (case k5k9 => k_is)
    (case k5a12 => k_is)
    (case k5l12 => k_is)
    (case k5c12 => k_is)
    (case k5k12 => k_is)
    (case k5a13 => k_is)
    (case k5l13 => k_is)
    (case k5c13 => k_is)
    (case k5k13 => k_is)
    (case k5a20 => k_is)
    (case k5l20 => k_is)
    (case k5c20 => k_is)
    (case k5k20 => k_is)
    (case k5a21 => k_is)
    (case k5l21 => k_is)
    (case k5c21 => k_is)
    (case k5k21 => k_is)
    (case k5a22 => k_is)
    (case k5l22 => k_is)
    (case k5c22 => k_is)
    (case k5k22 => k_is)
    (case k5a23 => k_is)
    (case k5l23 => k_is)
    (case k5c23 => k_is)
    (case k5k23 => k_is)
    (case k5a24 => k_is)
    (case k5l24 => k_is)
    (case k5c24 => k_is)
    (case k5k24 => k_is)
    (case k5a25 => k_is)
    (case k5l25 => k_is)
    (case k5c25 => k_is)
    (case k5k25 => k_is)
    (case k5a30 => k_is)
    (case k5l30 => k_is)
    (case k5c30 => k_is)
    (case k5k30 => k_is)
    (case k5a31 => k_is)
    (case k5l31 => k_is)
    (case k5c31 => k_is)
    (case k5k31 => k_is)
    (case k5a32 => k_is)
    (case k5l32 => k_is)
    (case k5c32 => k_is)
    (case k5k32 => k_is)
    (case k5a38 => k_is)
    (case k5l38 => k_is)
    (case k5c38 => k_is)
    (case k5k38 => k_is)
    (case k5a39 => k_is)
    (case k5l39 => k_is)
    (case k5c39 => k_is)
    (case k5k39 => k_is)
    (case k5a40 => k_is)
    (case k5l40 => k_is)
    (case k5c40 => k_is)
    (case k5k40 => k_is)
    (case k5a42 => k_is)
    (case k5l42 => k_is)
    (case k5c42 => k_is)
    (case k5k42 => k_is)
    (case k5a44 => k_is)
    (case k5l44 => k_is)
    (case k5c44 => k_is)
    (case k5k44 => k_is)
    (case k5a45 => k_is)
    (case k5l45 => k_is)
    (case k5c45 => k_is)
    (case k5k45 => k_is)
    (case k5a46 => k_is)
    (case k5l46 => k_is)
    (case k5c46 => k_is)
    (case k5k46 => k_is)
    (case k5a47 => k_is)
    (case k5l47 => k_is)
    (case k5c47 => k_is)
    (case k5k47 => k_is)
    (case k5a48 => k_is)
    (case k5l48 => k_is)
    (case k5c48 => k_is)
    (case k5k48 => k_is)
    (case k5a49 => k_is)
    (case k5l49 => k_is)
    (case k5c49 => k_is)
    (case k5k49 => k_is)
    (case k5a41 => k_is)
    (case k5l41 => k_is)
    (case k5c41 => k_is)
    (case k5k41 => k_is)
    (case k5a43 => k_is)
    (case k5l43 => k_is)
    (case k5c43 => k_is)
    (case k5k43 => k_is)
    (case k5Ae => k_is)
    (case k5Ie => k_is)
    (case k5le => k_is)
    (case k5ce => k_is)
    (case k5An => k_is)
    (case k5In => k_is)
    (case k5ln => k_is)
    (case k5cn => k_is)
    (case k5pgn => k_is)
    (case k5hdn => k_is)
    (case k5pon => k_is)
    (case k5san => k_is)
    (case k5mkn => k_is)
    (case k5fin_ => k_is)
    (case k5kpn => k_is)
    (case k5nn0 => k_is)
    (case k5nn1 => k_is)
    (case k5nn2 => k_is)
    (case k5nn3 => k_is)
    (case k5nn4 => k_is)
    (case k5nn5 => k_is)
    (case k5nn6 => k_is)
    (case k5nn7 => k_is)
    (case k5Al => k_is)
    (case k5Il => k_is)
    (case k5ll => k_is)
    (case k5cl => k_is)
    (case k5pgl => k_is)
    (case k5hdl => k_is)
    (case k5pol => k_is)
    (case k5sal => k_is)
    (case k5mkl => k_is)
    (case k5fil => k_is)
    (case k5kpl => k_is)
    (case k5nl0 => k_is)
    (case k5nl1 => k_is)
    (case k5nl2 => k_is)
    (case k5nl3 => k_is)
    (case k5Ag => k_is)
    (case k5Ig => k_is)
    (case k5lg => k_is)
    (case k5cg => k_is)
    (case k5pgg => k_is)
    (case k5hdg => k_is)
    (case k5pog => k_is)
    (case k5sag => k_is)
    (case k5mkg => k_is)
    (case k5fig_ => k_is)
    (case k5kpg => k_is)
    (case k5ng0 => k_is)
    (case k5ng1 => k_is)
    (case k5ng2 => k_is)
    (case k5ng3 => k_is)
    (case k5ng4 => k_is)
    (case k5ng5 => k_is)
    (case k5mron => k_is)
    (case k5eqn => k_is)
    (case k5AB => k_is)
    (case k5lB => k_is)
    (case k5rB => decide +kernel)
    (case k5saB => k_is)
    (case k5exB => k_is)
    (case k5tyB => k_is)
    (case k5kpB => k_is)
    (case k5iB => k_is)
    (case k5tB => k_is)
    (case k5nvB => k_is)
    (case k5isS => k_is)
    (case k5tyS => k_is)
    (case k5bS => k_is)
    (case k5sBS => k_is)
    (case k5gaB => k_is)
    (case k5ggB => k_is)
    (case k5hdB => k_is)
    (case k5clB => k_is)
    (case k5spB => k_is)
    (case k5tkB => k_is)
    (case k5mrB => k_is)
    (case k5z_type => k_is)
    (case k5z_str => k_is)
    (case k5z_len => k_is)
    (case k5z_all => k_is)
    (case k5z_any => k_is)
    (case k5z_int => k_is)
    (case k5z_enumerate => k_is)
    (case k5z_tuple => k_is)
    (case k5z_list => k_is)
    (case k5z_isinstance => k_is)
    (case k5z_sum => k_is)
    (case k5z_abs => k_is)
    (case k5z_repr => k_is)
    (case k5z_range => k_is)
    (case k5aLE => k_is)
    (case k5eLE => decide)
    (case k5aFI => k_is)
    (case k5eFI => decide)
    (case k5aDE => k_is)
    (case k5aMW => k_is)
    (case k5aMP => k_is)
    (case k5aBI => k_is)
    (case k5lBI => k_is)
    (case k5zBI => decide)
    (case k5vBI => exact .cons ⟨_, rfl⟩ (.cons ⟨_, rfl⟩ .nil))
    (case k5aLW => k_is)
    (case k5lLW => k_is)
    (case k5zLW => decide)
    (case k5vLW => exact .cons ⟨_, rfl⟩ (.cons ⟨_, rfl⟩ .nil))
    (case k5aBW => k_is)
    (case k5lBW => k_is)
    (case k5zBW => decide)
    (case k5vBW => exact .cons ⟨_, rfl⟩ (.cons ⟨_, rfl⟩ (.cons ⟨_, rfl⟩ .nil)))
    (case k5aAR => k_is)
    (case k5lAR => k_is)
    (case k5vAR => exact K5.kl_cons ⟨_, _, rfl, rfl⟩ (K5.kl_cons ⟨_, _, rfl, rfl⟩ (K5.kl_cons ⟨_, _, rfl, rfl⟩ (K5.kl_cons ⟨_, _, rfl, rfl⟩ (K5.kl_cons ⟨_, _, rfl, rfl⟩ (K5.kl_cons ⟨_, _, rfl, rfl⟩ (K5.kl_cons ⟨_, _, rfl, rfl⟩ (K5.kl_cons ⟨_, _, rfl, rfl⟩ (K5.kl_cons ⟨_, _, rfl, rfl⟩ (K5.kl_nil))))))))))
    (case k5sAR => rfl)
    (case k5eAR => exact K5.eo_cons ⟨_, _, _, rfl⟩ (K5.eo_cons ⟨_, _, _, rfl⟩ (K5.eo_cons ⟨_, _, _, rfl⟩ (K5.eo_cons ⟨_, _, _, rfl⟩ (K5.eo_cons ⟨_, _, _, rfl⟩ (K5.eo_cons ⟨_, _, _, rfl⟩ (K5.eo_cons ⟨_, _, _, rfl⟩ (K5.eo_cons ⟨_, _, _, rfl⟩ (K5.eo_cons ⟨_, _, _, rfl⟩ (K5.eo_nil))))))))))
    (case k5lc => k_is)
    (case k5v11 => rfl)
    (case k5v11b => rfl)
    (case k5v18 => rfl)
    (case k5v7 => rfl)
    (case k5v9 => rfl)
    (case k5v10 => rfl)
    (case k5ncP => decide)
    (case k5nP => rfl)
    (case k5hP => exact PySem.W.km_tabs_of Y _ (by decide))

