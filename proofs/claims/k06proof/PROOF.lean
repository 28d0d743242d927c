import PyProof.Rows.All
import Wide.All
import OpenK.AllK
import Wide.FinOn
import HandS.ForMost
import HandS.Exc
import HandS.ExcInit
import HandS.ExcIs
import HandS.ExcField
import HandS.TryOnly
import HandS.Lambda
import HandS.IsInst
import KE.KExcIs
import KE.GoesEnumKw
import HandS.Iter
import HandS.More
import HandS.DictComp
import HandS.StrMore
import HandS.Zip
import HandS.Conv
import HandS.Flow
import HandS.Defaults
import HandS.WideBits
import HandS.FStr
import PyProof.StrBlock2
import HandS.Evl
import HandS.Walk
import HandS.Codes
import HandS.WordsExc
import HandS.Dict
import KE.KDictKeyed
import KE.KDictDisplayH
import KE.KDictCopyH
import PyProof.ReprRoads
import HandS.EndTab
import PyProof.InstNe
import HandS.Property
import HandS.Wide
import HandS.RaiseMore
import PySem.Challenge.RW_uselots_k06_places_and_names_by_hand
set_option Elab.async false
set_option linter.all false
set_option maxRecDepth 100000
set_option maxHeartbeats 4000000
namespace Xv
open PySem PySem.Spec PyProof.Rows L2

def exv (a : Addr) (cls : Value) (d : Option Addr) : HO := .ext fun h => ∃ (ob : Obj) (fv : Array Value), h.get? a = some ob ∧ ob.cls = cls ∧ ob.dict = d ∧ ob.data = .fields fv
theorem exv_ok {P : Program} {w : World} {H : Hp} {h : Heap} {a : Addr} {cls : Value} {d : Option Addr} {ob : Obj} {fv : Array Value} (e : h.get? a = some ob) (h1 : ob.cls = cls) (h2 : ob.dict = d) (h3 : ob.data = .fields fv) : ObjOk P w H h a (exv a cls d) :=
  ⟨⟨ob, fv, e, h1, h2, h3⟩, ⟨ob, e⟩, fun _ _ ⟨o, v, q, r⟩ k => ⟨o, v, k o q, r⟩⟩
theorem exv_at {P : Program} {w : World} {H : Hp} {h : Heap} {a : Addr} {cls : Value} {d : Option Addr} (hok : HOk P w H h) (e : H a = some (exv a cls d)) : ∃ (ob : Obj) (fv : Array Value), h.get? a = some ob ∧ ob.cls = cls ∧ ob.dict = d ∧ ob.data = .fields fv :=
  (show ObjOk P w H h a (.ext fun h => ∃ (ob : Obj) (fv : Array Value), h.get? a = some ob ∧ ob.cls = cls ∧ ob.dict = d ∧ ob.data = .fields fv) from hok a _ e).1
section
variable {X : Cx} {pins : List (Addr × Obj)} {σ : L2.St} {H : Hp} {s : Shared} {a : Addr} {oe : Obj} {fv : Array Value} {cls : Value} {d : Option Addr}
/-- what was pinned is tracked from now on -/
theorem inv_hold (J : Inv X ((a, oe) :: pins) σ H s) (hz : Zc cls d oe) (hd : oe.data = .fields fv) (h0 : X.s_0.heap.get? a = none) (np : ∀ p ∈ X.pn ++ pins, p.1 ≠ a) : Inv X pins σ (upd H a (exv a cls d)) s := by
  obtain ⟨ea, na, nL, nF, nc⟩ := J.pin (a, oe) (List.mem_append_right _ List.mem_cons_self)
  have ea : s.heap.get? a = some oe := ea
  have na : H a = none := na
  have old : ∀ {b : Addr} {o : Obj}, X.s_0.heap.get? b = some o → b ≠ a := fun q z => by rw [z, h0] at q; cases q
  have tr : ∀ {b : Addr} {o : HO}, H b = some o → b ≠ a := fun q => ne_of_none q na
  refine ⟨J.ok, J.os, J.bare, ⟨J.base.keep, J.base.slot, fun b o q n hx => ?_, J.base.there, fun b xs q => ?_, fun b o u q => ?_, fun b ps q => ?_⟩, J.loc, J.cell, ?_, fun x c q => ?_, fun p hp => ?_, fun b o q => ?_, J.len⟩
  · rw [upd_ne (old q)]; exact J.base.free b o q n hx
  · have z := J.base.tups b xs q
    rw [upd_ne (tr z)]; exact z
  · have z := J.base.frzs b o u q
    rw [upd_ne (tr z)]; exact z
  · obtain ⟨more, z⟩ := J.base.tbls b ps q
    exact ⟨more, by rw [upd_ne (tr z)]; exact z⟩
  · rw [upd_ne (Ne.symm nL)]; exact J.free
  · have hne : c ≠ a := fun z => by
      obtain ⟨v, o, ho, hdc⟩ := J.cell x c q
      rw [z, ea] at ho
      cases ho
      exact nc v hdc
    rw [upd_ne hne]; exact J.freeC x c q
  · have hp' : p ∈ X.pn ++ (a, oe) :: pins := by
      rcases List.mem_append.mp hp with z | z
      · exact List.mem_append_left _ z
      · exact List.mem_append_right _ (List.mem_cons_of_mem _ z)
    obtain ⟨p1, p2, p3⟩ := J.pin p hp'
    exact ⟨p1, by rw [upd_ne (np p hp)]; exact p2, p3⟩
  · by_cases hb : b = a
    · subst hb
      rw [upd_same] at q
      cases q
      exact exv_ok ea hz.1 hz.2 hd
    · rw [upd_ne hb] at q
      exact (J.hok b o q).stay (fun _ _ _ r => r) (fun c r => by rw [upd_ne (tr r)]; exact r) fun c xs r => by rw [upd_ne (tr r)]; exact r
end
def wKeep (K : PySem.W.Frag) (n : Nat) (c : Value) (i : Nat) (ts : Addr → Value → Option Addr → TS) (D : Ends) : WX := fun cls d σ H =>
  PySem.W.exmOne K cls c = some true ∧ ∀ a, H a = none → σ.length = n → ts a cls d
    { nx := fun σ' H' => H' a = none → D.nx (σ'.set i none) (upd H' a (exv a cls d)), rt := fun v H' => H' a = none → D.rt v (upd H' a (exv a cls d)), bk := fun σ' H' => H' a = none → D.bk (σ'.set i none) (upd H' a (exv a cls d)), ct := fun σ' H' => H' a = none → D.ct (σ'.set i none) (upd H' a (exv a cls d)) }
    (σ.set i (some (.ref a))) H
section
variable {X : Cx} {x n : Str} {c : Value} {i : Nat} {body suite : List Stmt} {b₀ : Stmt} {np pos pos' : Pos} {tb : WX → TS} {ts : Addr → Value → Option Addr → TS}
/-- try: body / except x as n: suite, where all that the body raises is an x; it is kept -/
theorem ps_try_keep (hs : X.stack = X.env :: X.outer) (hf : X.env.frame = some X.env.locals) (hex : X.ex = []) (hN : X.N.Nodup) (hi : X.N[i]? = some n) (hln : X.env.kindOf n = some .local) (hc : Names X x c)
    (hb : ∀ (W : WX) (pn : List (Addr × Obj)) (xe : Value → Shared → Prop), Takes (X.tr pn xe) W → PassesOwn (model X.prog X.w) X.A X.env xe → PSs (X.tr pn xe) body (tb W))
    (hsu : ∀ (a : Addr) (oe : Obj) (cls : Value) (d : Option Addr) (pn : List (Addr × Obj)), Zc cls d oe → (∃ vs, oe.data = .fields vs) → PSs (X.suite a ((a, oe) :: pn)) (b₀ :: suite) (ts a cls d)) :
    PS X (.Try body [.ExceptHandler (some (.Name x np)) (some n) (b₀ :: suite) pos'] [] [] pos) (fun D σ H => tb (wKeep X.K X.N.length c i ts D) D σ H) := by
  refine ⟨fun pins s σ H D I h => wpAny_Try_except ?_⟩
  have ok := I.ok
  have frs2 : X.A.frames = some (X.env :: X.outer) := by rw [ok.frames, hs]
  have caught : Takes (X.tr (X.pn ++ pins) (fun e s₁ => wpAny (model X.prog X.w) X.A (noteFrame e X.env) (fun _ s₂ => wpAny (model X.prog X.w) X.A (setFlight e none) (fun _ s₃ =>
      wpAny (model X.prog X.w) X.A (handleBy e X.env [.ExceptHandler (some (.Name x np)) (some n) (b₀ :: suite) pos']) (SP X pins D) X.xe s₃) X.xe s₂) X.xe s₁)) (wKeep X.K X.N.length c i ts D) := by
    intro u s' xx
    obtain ⟨a, B, sI, pins', σ', H', cls, d, rfl, J0, nb, up, sky, na, os, ag, hm, hgo⟩ := xx
    have J := J0.ofTry ok
    rw [hs] at sky
    show wpAny (model X.prog X.w) X.A (noteFrame (.ref a) X.env) _ _ _
    refine Sky.land Zc.steady frs2 hf sky fun h3 fl up3 => ?_
    have J3 := J.landed (s' := { s' with heap := h3 }) nb fl.1 (up.trans up3) os ag
    obtain ⟨o3, v3, e3, z3, d3⟩ := fl.there
    have off : a ∉ frs (X.env :: X.outer) := fun hm => by
      obtain ⟨_, o', e', hnf⟩ := fl.2.2.1.mem hm
      rw [e3] at e'
      cases e'
      exact hnf _ d3
    have nL : a ≠ X.env.locals := fun z => off (List.mem_filterMap.mpr ⟨X.env, List.mem_cons_self, by rw [hf, z]⟩)
    have nF : a ∉ X.fs := fun hm => by
      obtain ⟨e, he, q⟩ := List.mem_filterMap.mp hm
      exact off (List.mem_filterMap.mpr ⟨e, List.mem_cons_of_mem _ he, q⟩)
    have nB : B.get? a = none := fl.2.1
    have nI : sI.heap.get? a = none := by
      cases q : sI.heap.get? a with
      | none => rfl
      | some o =>
        have z := nb a o q (by rw [hs]; exact off)
        rw [nB] at z
        cases z
    have n0 : X.s_0.heap.get? a = none := by
      cases q : X.s_0.heap.get? a with
      | none => rfl
      | some o =>
        obtain ⟨o', z⟩ := J.base.there a o q (by rw [hex]; simp)
        rw [nI] at z
        cases z
    have npp : ∀ p ∈ X.pn ++ pins, p.1 ≠ a := fun p hp z => by
      have q := (J.pin p hp).1
      rw [z, nI] at q
      cases q
    have S3 := J3.suite e3 d3 na nL nF
    refine wpAny_handleBy_cons (codeAny_handlers_test ?_) (by intro q; cases q)
    have ty : PySem.W.Looks (model X.prog X.w) h3 (typeOf (.ref a)) cls := fun A Q E s k q => wpAny_typeOf_ref (k _ _ e3) (by rw [z3.1]; exact q)
    have named : ∀ {Q : Value → Shared → Prop} {E : Value → Shared → Prop}, Q c { s' with heap := h3 } → wpAny (model X.prog X.w) (X.A.mark (some (.ref a))) (eval (.Name x np) X.env) Q E { s' with heap := h3 } := fun q => by
      obtain ⟨hg, hdbg, hm | ⟨hm, hv, hnn⟩⟩ := hc
      · exact ld_glob (X := X.suite a ((a, o3) :: (X.pn ++ pins))) S3 hg hm q hdbg
      · exact ld_blt (X := X.suite a ((a, o3) :: (X.pn ++ pins))) S3 hg hm hv q hnn hdbg
    refine named ((PySem.W.exm_one (M := model X.prog X.w) J3.kIn ty hm).here (codeAny_handlers_suite_as (HandSPX.lands_againZ fl fun h4 fl4 up4 => ?_)))
    have J4 := J.landed (s' := { s' with heap := h4 }) nb fl4.1 ((up.trans up3).trans up4) os ag
    obtain ⟨o4, v4, e4, z4, d4⟩ := fl4.there
    have S4 := J4.suite e4 d4 na nL nF
    refine store_ok (X := X.suite a ((a, o4) :: (X.pn ++ pins))) (v := .ref a) S4 hN hi (.inl hln) rfl (fun s5 S5 => ?_) (.inr hln)
    refine wpAny_mono ((hsu a o4 cls d (X.pn ++ pins) z4 ⟨_, d4⟩).run [] s5 _ H' _ S5 (hgo a na J.len)) (fun f s6 fin => ?_) (fun _ _ z => False.elim z)
    have leave : ∀ {τ : L2.St} {G : Hp} {Q : Shared → Prop}, Inv (X.suite a ((a, o4) :: (X.pn ++ pins))) [] τ G s6 → (G a = none → ∀ s7, Inv X pins (τ.set i none) (upd G a (exv a cls d)) s7 → Q s7) →
        wpAny (model X.prog X.w) X.A (do bindName X.env n .none; unbindBehindTheSuite X.env n pos') (fun _ s7 => Q s7) X.xe s6 := fun {τ G Q} T6 hq => by
      have T7 : Inv X ((a, o4) :: pins) τ G s6 := ⟨ok, T6.os, T6.bare, T6.base, T6.loc, T6.cell, T6.free, T6.freeC, fun p hp => T6.pin p (by
        rcases List.mem_append.mp hp with z | z
        · exact List.mem_append_left _ (List.mem_cons_of_mem _ (List.mem_append_left _ z))
        · rcases List.mem_cons.mp z with z | z
          · exact List.mem_append_left _ (by rw [z]; exact List.mem_cons_self)
          · exact List.mem_append_left _ (List.mem_cons_of_mem _ (List.mem_append_right _ z))), T6.hok, T6.len⟩
      exact gone_ok T7 hN hi hln fun s7 T8 => hq (T6.pin (a, o4) (List.mem_append_left _ List.mem_cons_self)).2.1 s7 (inv_hold T8 z4 d4 n0 npp)
    cases f with
    | next =>
      obtain ⟨τ, G, T6, q6⟩ := fin
      exact leave T6 fun n6 s7 T => ⟨_, _, T, q6 n6⟩
    | brk =>
      obtain ⟨τ, G, T6, q6⟩ := fin
      exact leave T6 fun n6 s7 T => ⟨_, _, T, q6 n6⟩
    | cont =>
      obtain ⟨τ, G, T6, q6⟩ := fin
      exact leave T6 fun n6 s7 T => ⟨_, _, T, q6 n6⟩
    | ret u =>
      obtain ⟨v6, τ, G, T6, r6, q6⟩ := fin
      exact leave T6 fun n6 s7 T => ⟨_, _, _, T, r6, q6 n6⟩
  refine wpAny_mono ((hb (wKeep X.K X.N.length c i ts D) (X.pn ++ pins) _ caught PassesOwn.looking).run [] s σ H D (I.toTry _) h) (fun f s1 fin => ?_) (fun e s1 he => he)
  cases f with
  | next =>
    obtain ⟨τ, G, T, q⟩ := fin
    exact wpAny_execs_nil ⟨τ, G, T.ofTry ok, q⟩
  | brk =>
    obtain ⟨τ, G, T, q⟩ := fin
    exact ⟨τ, G, T.ofTry ok, q⟩
  | cont =>
    obtain ⟨τ, G, T, q⟩ := fin
    exact ⟨τ, G, T.ofTry ok, q⟩
  | ret u =>
    obtain ⟨v, τ, G, T, r, q⟩ := fin
    exact ⟨v, τ, G, T.ofTry ok, r, q⟩
end

section
variable {X : Cx}
/-- try: act = call() / except e as caught: return (caught, None) / return (None, act) -/
def TTcaught (K : PySem.W.Frag) (CS : Addr) : (XK → Hp → VK → Prop) → Hp → VK → Prop := fun tl H Q =>
  tl (fun cls d H' => PySem.W.exmOne K cls (.ref CS) = some true ∧ ∀ a t, H' a = none → H' t = none → t ≠ a → Q (.ref t) (upd (upd H' t (.tup [.ref a, .non])) a (exv a cls d))) H
    (fun v H' => ∀ t, H' t = none → Q (.ref t) (upd H' t (.tup [.non, v])))
theorem caught_gives {x q : Str} {sg : Scope} {g CS : Addr} {cdg : Value} {p1 p2 p3 p4 p5 p6 p7 p8 p9 p10 p11 p12 p13 p14 p15 : Pos} {k1 k2 k3 k4 : Nat}
    (h0 : sg.names.lookup ("call" : Str) = some .local) (h1 : sg.names.lookup ("act" : Str) = some .local) (h2 : sg.names.lookup ("caught" : Str) = some .local) (hge : sg.names.lookup ("UseError" : Str) = some .globalImplicit) (hme : X.mg "UseError" = some (.ref CS)) :
    LamX.GivesTo X ["call", "act", "caught"] x sg g cdg [.Try [.Assign [.Name "act" p1] (.Call (.Name "call" p2) [] [] p3) p4] [.ExceptHandler (some (.Name "UseError" p5)) (some "caught") [.Return (some (.Tuple [.Name "caught" p6, .Constant .none k1 p7] k2 p8)) p9] p10] [] [] p11,
      .Return (some (.Tuple [.Constant .none k3 p12, .Name "act" p13] k4 p14)) p15] "call" q (TTcaught X.K CS) := by
  intro f c' s H Q tl act hc h
  have nd : (["call", "act", "caught"] : List Str).Nodup := by decide +kernel
  have hgl : Gl (cxOf C8.CX0 X.prog X.w X.K X.mg X.base ["call", "act", "caught"] x sg g cdg X.A X.stack s H C8.E0).nox "UseError" := hge
  have v1 : Vis sg "act" := .inl h1
  have v2 : Vis sg "caught" := .inl h2
  refine ⟨_, pss_cons (ps_try_keep (X := (cxOf C8.CX0 X.prog X.w X.K X.mg X.base ["call", "act", "caught"] x sg g cdg X.A X.stack s H C8.E0).nox) (c := .ref CS) (i := 2)
      (tb := fun W D σ H => ∃ Ech : XK, (∀ cls d σ' H', Ech cls d H' → W cls d σ' H') ∧ σ[0]? = some (some (.ref f)) ∧ H c' = some (LamX.CodeO c' q) ∧ tl Ech H (fun v H' => D.nx (σ.set 1 (some v)) H'))
      rfl rfl rfl nd rfl h2 ⟨hgl, by decide, .inl hme⟩ (fun W pn xe tk _ => ?_) (fun a oe cls d pn _ _ => pss_one (ps_ret (pe_tup (pa_cons (pv 2 rfl v2) (pa_cons pe_non pa_nil))))))
      (pss_one (ps_ret (pe_tup (pa_cons pe_non (pa_cons (pv 1 rfl v1) pa_nil))))), ?_⟩
  · refine ⟨fun pins s' σ H' D I h' => ?_⟩
    obtain ⟨Ech, hW, e1, e2, e3⟩ := h'
    have hp := act W pn xe Ech p2 p3 tk hW
    have hq := pss_one (ps_set (i := 1) (pos := p4) (pos' := p1) (X := (cxOf C8.CX0 X.prog X.w X.K X.mg X.base ["call", "act", "caught"] x sg g cdg X.A X.stack s H C8.E0).tr pn xe) nd rfl (.inl h1) hp)
    exact hq.run pins s' σ H' D I ⟨e1, e2, e3⟩
  · refine ⟨fun cls d H' => PySem.W.exmOne X.K cls (.ref CS) = some true ∧ ∀ a t, H' a = none → H' t = none → t ≠ a → Q (.ref t) (upd (upd H' t (.tup [.ref a, .non])) a (exv a cls d)), fun cls d σ' H' ⟨m, k⟩ => ⟨m, fun a ha hl => ?_⟩, rfl, hc, ?_⟩
    · refine ⟨.ref a, List.getElem?_set_self (by rw [hl]; show 2 < 3; decide), (by show 2 ≤ sizeLine; decide), fun t ht n6 => k a t ha ht fun z => ?_⟩
      rw [z, upd_same] at n6
      cases n6
    · have e : (fun (v : V) (H' : Hp) => tRet (tTup (tCons (tC .non) (tCons (tVar 1) tNil))) { nx := fun _ H' => Q .non H', rt := Q } ((L2.start ["call", "act", "caught"] [V.ref f]).set 1 (some v)) H') = fun v H' => ∀ t, H' t = none → Q (.ref t) (upd H' t (.tup [.non, v])) :=
        funext fun v => funext fun H' => propext ⟨fun r => by
          obtain ⟨v', e1, _, k⟩ := r
          cases e1
          exact k, fun k => ⟨v, rfl, (by show 2 ≤ sizeLine; decide), k⟩⟩
      exact Eq.mp (congrArg (fun R => tl _ H R) e.symm) h
end

/-- the class D of an exception, as isinstance asks it -/
structure XcC (K : PySem.W.Frag) (D : Addr) : Prop extends ExcC K D where
  no : ∀ f : Str, f = "value" → PySem.W.findIn K (.ref D) f = some none
section
variable {X : Cx} {pins : List (Addr × Obj)} {σ : L2.St} {H : Hp} {s : Shared}
theorem exv_inst {a D dd : Addr} {fs : List (Str × V)} (I : Inv X pins σ H s) (e : H a = some (exv a (.ref D) (some dd))) (ed : H dd = some (.xd fs)) :
    ∃ ob od, PySem.W.InstAt s.heap a ob D (some od) ∧ ∀ n : Str, ∃ m : Option Value, PySem.W.lookIn n od = some m ∧ RelO (fs.lookup n) m := by
  obtain ⟨ob, fv, h1, h2, h3, h4⟩ := exv_at I.hok e
  have hx : ObjOk X.prog X.w H s.heap dd (.xd fs) := I.hok dd _ ed
  obtain ⟨mA, hns, hr⟩ := hx
  obtain ⟨od, ho, hl⟩ := lookIn_ns hns
  exact ⟨ob, od, ⟨h1, h2, by unfold PySem.W.notCls; rw [h4] <;> rfl, by rw [h3]; exact ho⟩, fun n => ⟨mA n, hl n, hr n⟩⟩
/-- an own exception that is kept, or any value whose class the layer knows -/
def TyV (K : PySem.W.Frag) (H : Hp) (x : V) (t : Value) : Prop := TyX K H x t ∨ ∃ (a D dd : Addr) (fs : List (Str × V)), x = .ref a ∧ t = .ref D ∧ H a = some (exv a (.ref D) (some dd)) ∧ H dd = some (.xd fs) ∧ ExcC K D
def rIsV (K : PySem.W.Frag) : List V → Hp → VK → Prop := fun xs H Q => ∃ (x c : V) (t u : Value) (b : Bool), xs = [x, c] ∧ ClsV c u ∧ TyV K H x t ∧ PySem.W.kitOne K t u = some b ∧ Q (.bl b) H
theorem call_isV : CallR X (.builtin "isinstance") (rIsV X.K) := by
  intro pins s σ H xs us Q I r h
  obtain ⟨x, c, t, u, b, rfl, k, ty, e, q⟩ := h
  rcases ty with ty | ⟨a, D, dd, fs, rfl, rfl, ea, ed, C⟩
  · exact call_isi pins s σ H _ us Q I r ⟨x, c, t, u, b, rfl, k, ty, e, q⟩
  · obtain ⟨u1, u2, rfl, r1, r2⟩ := vals2 r
    have e2 := k.eq r2
    subst e2
    obtain rfl : u1 = Value.ref a := r1
    obtain ⟨ob, od, J, _⟩ := exv_inst I ea ed
    obtain ⟨cd, hc, _⟩ := PySem.W.any_some C.hd
    exact PySem.W.kia_one (PySem.W.kitx_exc (by rw [hc]; rfl) C.hg C.hk C.hs C.ha C.hn C.ht C.hm) I.kIn J e (fun z => nomatch z) fun tk => ⟨.bl b, H, I.tok tk, rfl, q⟩
/-- e.n of a kept exception -/
def tXv (K : PySem.W.Frag) (n : Str) (te : TE) : TE := fun σ H Q => te σ H fun x H1 => ∃ (a C dd : Addr) (fs : List (Str × V)) (v : V), x = .ref a ∧ H1 a = some (exv a (.ref C) (some dd)) ∧ H1 dd = some (.xd fs) ∧ XfC K C ∧ PySem.W.findIn K (.ref C) n = some none ∧ fs.lookup n = some v ∧ Q v H1
theorem pe_xv {e : Expr} {te : TE} {pos : Pos} {n : Str} (he : PE X e te) (hb : attributeBase e n X.env (eval e X.env) = eval e X.env := by rfl) : PE X (.Attribute e n pos) (tXv X.K n te) := by
  refine ⟨fun pins s σ H Q I h => attr_of hb (thn (he.run pins s σ H _ I h) fun u s1 hh => ?_)⟩
  obtain ⟨x, H1, I1, rx, a, C, dd, fs, v, rfl, ea, ed, T, hno, l, q⟩ := hh
  obtain rfl : u = Value.ref a := rx
  obtain ⟨ob, od, J, hl⟩ := exv_inst I1 ea ed
  obtain ⟨m, hm, hr⟩ := hl n
  rw [l] at hr
  obtain ⟨u, hu, ru⟩ := RelO.some_of (v := v) (o := m) hr
  exact HandSPX.exc_get I1.kIn J T.ga T.gg T.exC (PySem.W.findObj_own T.hdC hno rfl (by rw [hm, hu])) (handed_of ru) ⟨v, H1, I1.tok _, ru, q⟩
end
end Xv
set_option Elab.async false
set_option linter.all false
set_option maxRecDepth 100000
set_option maxHeartbeats 4000000
namespace Xe
open PySem PySem.Spec PyProof.Rows L2
def ItE (K : PySem.W.Frag) (k₀ : Int) (a : Addr) : It :=
  ⟨fun i H => ∃ (xs : List V) (x : V), SqL K H a xs ∧ xs[i]? = some x,
   fun i H v H' => ∃ T x, v = .ref T ∧ H T = none ∧ H' = upd H T (.tup [.int (k₀ + (i : Int)), x]) ∧ ∀ xs, SqL K H a xs → xs[i]? = some x,
   fun i H => ∃ xs : List V, SqL K H a xs ∧ xs.length ≤ i⟩
theorem turn_enumK {P : Program} {w : World} {K : PySem.W.Frag} {elts : List Expr} {kk : Nat} {tpos : Pos} (k₀ : Int) (a e it : Addr) :
    Turn P w K (.Tuple elts kk tpos) (ItE K k₀ a) [e, it] e (fun i h => (∃ old, IsEnum h e it (k₀ + (i : Int)) old) ∧ h.IsListIter it a i ∧ e ≠ it ∧ a ≠ it ∧ e ≠ a) where
  mem := List.mem_cons_self
  obj := by
    rintro i h ⟨⟨old, he⟩, ⟨o, ho, hc, hd⟩, _⟩ b hb
    rcases List.mem_cons.mp hb with rfl | hb
    · exact ⟨_, he, fun v q => nomatch q⟩
    · rw [List.mem_singleton.mp hb]
      exact ⟨o, ho, fun v q => by rw [hd] at q; cases q⟩
  keep := by
    rintro i h h' ⟨⟨old, he⟩, hi, n1, n2, n3⟩ k
    exact ⟨⟨old, k e List.mem_cons_self _ he⟩, hi.at fun o q => k it (by simp) o q, n1, n2, n3⟩
  item := by
    intro X hP hw hK hc i pins s σ H E I hf st hg
    subst hP hw hK
    obtain ⟨⟨old, he⟩, hit, n1, n2, n3⟩ := st
    obtain ⟨xs, x, hq, hx⟩ := hg
    obtain ⟨its, rv, p, hz⟩ := I.list hq
    obtain ⟨u, hu, ru⟩ := rv.get hx
    have le : e < s.heap.objs.size := Heap.lt_size he
    have li : it < s.heap.objs.size := by obtain ⟨_, q, _⟩ := hit; exact Heap.lt_size q
    have hn : X.A.in1.handled = none := I.ok.hd hc
    have hlt : i < its.toArray.size := by
      have := (List.getElem?_eq_some_iff.mp hu).1
      simpa using this
    have ne2 : e ∉ [it, a] := by simp [n1, n3]
    refine wpAny_pyNext_enum_itemC (Draws.list hn it a n2 its.toArray) he ⟨hit, p.isList⟩ hlt n1 ne2 fun y h' tk hy ho st' hT hsz hk => ⟨_, rfl, ?_⟩
    have ey : y = u := by
      have : its[i]? = some y := by simpa using hy
      rw [hu] at this
      exact (Option.some.inj this).symm
    subst ey
    refine wpAny_letOwnedTupleGo_enum (s := { s with heap := h', toks := tk + 1 }) ho fun h2 he2 sb => ?_
    have hT2 : h2.get? s.heap.objs.size = some { cls := .type "tuple", data := .seq #[.int (k₀ + (i : Int)) tk, y] } := (sb.2 _ (Nat.ne_of_gt le)).trans hT
    have new : ObjOk X.prog X.w (upd H s.heap.objs.size (.tup [.int (k₀ + (i : Int)), x])) h2 s.heap.objs.size (.tup [.int (k₀ + (i : Int)), x]) :=
      ⟨by show 2 ≤ sizeLine; decide, [.int (k₀ + (i : Int)) tk, y], .cons ⟨_, rfl⟩ (.cons ru .nil), ⟨_, hT2, rfl, _, rfl⟩⟩
    have I1 : Inv X pins σ (upd H s.heap.objs.size (.tup [.int (k₀ + (i : Int)), x])) { s with heap := h2, toks := tk + 1 } :=
      I.turnedNew (ch := [e, it]) (fun b ob hb q => (sb.2 b (fun z => hb (by simp [z]))).trans (hk b ob (fun z => hb (by simp [z])) (fun z => hb (by simp [z])) q)) hf (Nat.le_refl _) new
    refine ⟨.ref s.heap.objs.size, _, I1, rfl, ⟨_, x, rfl, I.hok.fresh (Nat.le_refl _), rfl, fun ys hy => by rw [I.list_inj hy hq]; exact hx⟩, ⟨⟨y, ?_⟩, st'.1.at fun o q => (sb.2 it (Ne.symm n1)).trans q, n1, n2, n3⟩, fun b hb => ?_⟩
    · have e1 : k₀ + ((i + 1 : Nat) : Int) = k₀ + (i : Int) + 1 := by omega
      rw [e1]; exact he2
    · have hb' : b < s.heap.objs.size := by
        rcases List.mem_cons.mp hb with z | z
        · rw [z]; exact le
        · rw [List.mem_singleton.mp z]; exact li
      rw [upd_ne (Nat.ne_of_lt hb')]
      exact (hf b hb).1
  done := by
    intro X hP hw hK hc i pins s σ H E I hf st hg
    subst hP hw hK
    obtain ⟨⟨old, he⟩, hit, n1, n2, n3⟩ := st
    obtain ⟨xs, hq, hx⟩ := hg
    obtain ⟨its, rv, p, hz⟩ := I.list hq
    obtain ⟨f0, f1, f2, f3, f4, f5⟩ := hf it (by simp)
    have hl := rv.length
    have hn : X.A.in1.handled = none := I.ok.hd hc
    have D : Draws X.prog X.w X.A.in1 it [it, a] i (fun _ _ => False) (fun j h => j = i ∧ h.IsListIter it a i ∧ h.IsList a its.toArray) := {
      live := fun _ _ st => let ⟨_, ⟨o, ho, _⟩, _⟩ := st; ⟨o, ho⟩
      frame := fun _ _ _ st hk => ⟨st.1, st.2.1.at fun o q => hk it (by simp) o q, st.2.2.at fun o q => hk a (by simp) o q⟩
      item := fun j _ _ _ hj st _ => absurd st.1 (Nat.ne_of_lt hj)
      done := fun s Q E st hE => wpAny_nextOf_list_end hn st.2.1 st.2.2 (by simp; omega) hE }
    exact wpAny_pyNext_enum_endD D he ⟨rfl, hit, p.isList⟩ fun h' eb => ⟨rfl, I.turned (t' := s.toks) (fun b o hb q => eb b o hb q) f0 f1 f3 f4 f5⟩
  self := fun A i s Q E st h => let ⟨⟨_, he⟩, _⟩ := st; wpAny_pyIter_enum he h
def iEnumK (K : PySem.W.Frag) (k₀ : Int) (ta : TA) : TI := fun σ H R => ta σ H fun vs H1 => ∃ a xs, vs = [.ref a] ∧ SqL K H1 a xs ∧ R (ItE K k₀ a) H1
theorem callWith_typeK {M : Model} {A : Around} {E : Value → Shared → Prop} {s : Shared} {env : Env} {pos : Pos} {T : String} {e : Expr} {rest : List Expr} {kws : List Keyword} {Q : Value → Shared → Prop} (hall : (backToKw pos (keywordEach kws env)).all (·.1.isSome) = true)
    (h : wpAny M A (spliced (backTo pos (starEach (e :: rest) env))) (fun vs s₁ => wpAny M A (evalAll ((backToKw pos (keywordEach kws env)).map (·.2)))
      (fun ks s₂ => wpAny M A (call (.type T) vs (((backToKw pos (keywordEach kws env)).filterMap (·.1)).zip ks)) Q E s₂) E s₁) E s)
    (hplain : ((backTo pos (starEach (e :: rest) env)).any (·.1) || (backToKw pos (keywordEach kws env)).any (·.1.isNone)) = false := by rfl) (he : starEach (e :: rest) env = (false, eval e env) :: starEach rest env := by rfl) :
    wpAny M A (callWith pos (.type T) [] (backTo pos (starEach (e :: rest) env)) (backToKw pos (keywordEach kws env))) Q E s :=
  PySem.W.callWith_of (P := fun _ => True) hplain (fun _ _ => ⟨.machine, .inr (.inl rfl), PySem.W.Looks.of_pure rfl⟩) (evalArgs_kw2 hall (thn h fun vs s1 h1 => thn h1 fun ks s2 h2 => ⟨trivial, h2⟩) he)
theorem pi_enumK {X : Cx} {e : Expr} {ta : TA} {p pos tpos kpos cpos : Pos} {elts : List Expr} {kk j : Nat} {k₀ : Int} (hg : Gl X "enumerate") (hm : X.mg "enumerate" = none) (hk : 0 ≤ k₀ ∧ k₀ < 1000) (ha : PA X [e] ta) (hs : starEach [e] X.env = [(false, eval e X.env)] := by rfl) :
    PI X (.Tuple elts kk tpos) (.Call (.Name "enumerate" p) [e] [⟨some "start", .Constant (.int k₀) j cpos, kpos⟩] pos) (iEnumK X.K k₀ ta) := by
  refine ⟨fun pins s σ H R I h => ?_⟩
  refine wpAny_Call_Name_kw (ld_blt I hg hm boot_enumerate (callWith_typeK rfl (thn (ha.run pos pins s σ H _ I h) fun us s1 ⟨vs, H1, I1, r1, q1⟩ => ?_) (by rw [hs]; rfl) hs))
  refine thn ((pk_cons (nm := some "start") (kpos := kpos) (pe_int (X := X) (i := k₀) (j := j) (pos := cpos)) pk_nil).run pos pins s1 σ H1 (fun zs H2 => zs = [.int k₀] ∧ H2 = H1) I1 ⟨rfl, rfl⟩) fun ks s2 ⟨zs, H2, I2, rz, ez, eH⟩ => ?_
  subst ez eH
  obtain ⟨a, xs, rfl, hq, q⟩ := q1
  obtain ⟨u, rfl, ru⟩ := vals1 r1
  obtain ⟨u2, rfl, t, rfl⟩ := vals1 rz
  cases ru
  obtain ⟨its, rv, p', hz⟩ := I2.list hq
  show wpAny _ _ (call (.type "enumerate") [.ref a] [(Str.ofString "start", .int k₀ t)]) _ _ _
  refine enum_begins_start (begins_list a its.toArray) p'.isList (by omega) (by omega) fun h' he hit hsz hkp => wpAny_pyIter_enum he ?_
  have I3 : Inv X pins σ H2 { s2 with heap := h' } := I2.kept (t' := s2.toks) hkp
  have la : a < s2.heap.objs.size := by obtain ⟨o, ho, _⟩ := p'.isList; exact Heap.lt_size ho
  refine ⟨s2.heap.objs.size + 1, [s2.heap.objs.size + 1, s2.heap.objs.size], _, _, H2, rfl, I3, turn_enumK k₀ a (s2.heap.objs.size + 1) s2.heap.objs.size, ⟨⟨.none, by rw [Int.natCast_zero, Int.add_zero]; exact he⟩, ⟨_, hit, rfl, rfl⟩, Nat.succ_ne_self _, Nat.ne_of_lt la, Nat.ne_of_gt (Nat.lt_succ_of_lt la)⟩, fun b hb => ?_, q⟩
  have hle : s2.heap.objs.size ≤ b := by
    rcases List.mem_cons.mp hb with z | z
    · rw [z]; exact Nat.le_add_right _ _
    · rw [List.mem_singleton.mp z]; exact Nat.le_refl _
  exact I2.fpOk hle (I2.hok.fresh hle)
/-- the walk of enumerate(list, start=k) as a for's reading -/
theorem for_enumK {K : PySem.W.Frag} {k₀ : Int} {a : Addr} {xs : List V} {g : TG} {tb : TS} {D : Ends} {σ : L2.St} {H : Hp} (Pv : Nat → L2.St → Hp → Prop) (h0 : Pv 0 σ H) (hl : ∀ i σ H, i ≤ xs.length → Pv i σ H → SqL K H a xs)
    (hs : ∀ i x σ H T, xs[i]? = some x → Pv i σ H → H T = none → g (.ref T) σ (upd H T (.tup [.int (k₀ + (i : Int)), x])) fun σ2 H2 => tb { nx := Pv (i + 1), rt := D.rt, bk := D.nx, ct := Pv (i + 1) } σ2 H2)
    (hd : ∀ σ H, Pv xs.length σ H → D.nx σ H) : ∃ W : Nat → Nat → L2.St → Hp → Prop, (∃ m, W 0 m σ H) ∧ ∀ i m σ H, W i m σ H →
      ((ItE K k₀ a).stop i H ∧ D.nx σ H) ∨ ((ItE K k₀ a).go i H ∧ ∃ Nx : L2.St → Hp → Prop, (∀ σ' H', Nx σ' H' → ∃ m', m' < m ∧ W (i + 1) m' σ' H') ∧ ∀ x H', (ItE K k₀ a).yld i H x H' → g x σ H' fun σ2 H2 => tb { D with nx := Nx, bk := D.nx, ct := Nx } σ2 H2) := by
  refine ⟨fun i m σ H => m + i = xs.length ∧ Pv i σ H, ⟨xs.length, Nat.add_zero _, h0⟩, ?_⟩
  rintro i m σ H ⟨hm, p⟩
  have q := hl i σ H (by omega) p
  cases m with
  | zero =>
    have e : i = xs.length := by omega
    subst e
    exact .inl ⟨⟨xs, q, Nat.le_refl _⟩, hd σ H p⟩
  | succ m =>
    have hlt : i < xs.length := by omega
    refine .inr ⟨⟨xs, xs[i], q, List.getElem?_eq_getElem hlt⟩, Pv (i + 1), fun σ' H' p' => ⟨m, Nat.lt_succ_self _, by omega, p'⟩, ?_⟩
    rintro _ _ ⟨T, x, rfl, hT, rfl, y⟩
    exact hs i x σ H T (y xs q) p hT
end Xe
set_option Elab.async false
set_option linter.all false
set_option maxRecDepth 100000
set_option maxHeartbeats 4000000
namespace Xq
open PySem PySem.Spec PyProof.Rows L2
section
variable {prog : Program} {w : World} {A : Around} {E : Value → Shared → Prop} {s : Shared} {K : PySem.W.Frag} {x y C : Addr} {ox oy : Obj} {od oe : Option Obj}
theorem no_tup {h : Heap} (I : PySem.W.InstAt h x ox C od) : ox.cls ≠ .type "tuple" := by rw [I.cls]; intro z; cases z
theorem call_eq1 {Q : Value → Shared → Prop} (X : K.In s.heap) (I : PySem.W.InstAt s.heap x ox C od) (hm : PySem.W.mroIn K C (.type "object") = some true) (hq : Q (.bool true) s) :
    wpAny (model prog w) A (call (.builtin "object.__eq__") [.ref x, .ref x]) Q E s :=
  wpAny_call (codeAny_call_builtin F.cmp_object.eq.plain F.cmpEntry_eq (PySem.W.check_slot F.cmpKind_eq F.cmpSplit_eq (I.type.andThen (PySem.W.looks_mroIn X hm)) (F.cmpArgs_eq _ _) (objEq_entry_same hq)))
theorem call_eq2 {Q : Value → Shared → Prop} (X : K.In s.heap) (I : PySem.W.InstAt s.heap x ox C od) (J : PySem.W.InstAt s.heap y oy C oe) (n : x ≠ y) (hm : PySem.W.mroIn K C (.type "object") = some true) (hq : Q .notImplemented s) :
    wpAny (model prog w) A (call (.builtin "object.__eq__") [.ref x, .ref y]) Q E s :=
  wpAny_call (codeAny_call_builtin F.cmp_object.eq.plain F.cmpEntry_eq (PySem.W.check_slot F.cmpKind_eq F.cmpSplit_eq (I.type.andThen (PySem.W.looks_mroIn X hm)) (F.cmpArgs_eq _ _) (objEq_entry_other n I.at_ J.at_ (no_tup I) hq)))
theorem rc_ins {Q : Value → Shared → Prop} (hu : A.units < cLine) (X : K.In s.heap) (I : PySem.W.InstAt s.heap x ox C od) (J : PySem.W.InstAt s.heap y oy C oe) (hm : PySem.W.mroIn K C (.type "object") = some true)
    (hs : PySem.W.findIn K (.ref C) "__eq__" = some (some (.builtin "object.__eq__"))) (hq : Q (.bool (decide (x = y))) s) : wpAny (model prog w) A (richCompare .Eq (.ref x) (.ref y)) Q E s := by
  have same : (Value.ref C != Value.ref C) = false := by simp
  by_cases n : x = y
  · subst n
    rw [decide_eq_true rfl] at hq
    have one : wpAny (model prog w) A (tryCompare (.ref x) "__eq__" (.ref x)) (fun r s' => r = some (.bool true) ∧ s' = s) E s := by
      unfold tryCompare
      exact wpAny_bind (HN.ifBound_objEq X I hs (call_eq1 X I hm (wpAny_pure ⟨rfl, rfl⟩)))
    simp only [richCompare, cmpInfo_Eq, oneThing_ref]
    refine wpAny_holding (wpAny_bind (wpAny_cRoomFor hu (wpAny_bind (I.type.here (wpAny_bind (I.type.here ?_))))))
    rw [same]
    refine wpAny_bind (wpAny_pure ?_)
    simp only [Bool.false_eq_true, if_false]
    refine wpAny_bind (wpAny_mono one (fun r s1 z => ?_) fun _ _ e => e)
    obtain ⟨rfl, rfl⟩ := z
    exact wpAny_pure hq
  · rw [decide_eq_false n] at hq
    have one : wpAny (model prog w) A (tryCompare (.ref x) "__eq__" (.ref y)) (fun r s' => r = none ∧ s' = s) E s := by
      unfold tryCompare
      exact wpAny_bind (HN.ifBound_objEq X I hs (call_eq2 X I J n hm (wpAny_pure ⟨rfl, rfl⟩)))
    have two : wpAny (model prog w) A (tryCompare (.ref y) "__eq__" (.ref x)) (fun r s' => r = none ∧ s' = s) E s := by
      unfold tryCompare
      exact wpAny_bind (HN.ifBound_objEq X J hs (call_eq2 X J I (Ne.symm n) hm (wpAny_pure ⟨rfl, rfl⟩)))
    simp only [richCompare, cmpInfo_Eq, oneThing_ref]
    refine wpAny_holding (wpAny_bind (wpAny_cRoomFor hu (wpAny_bind (I.type.here (wpAny_bind (J.type.here ?_))))))
    rw [same]
    refine wpAny_bind (wpAny_pure ?_)
    simp only [Bool.false_eq_true, if_false, Bool.not_false, if_true]
    refine wpAny_bind (wpAny_mono one (fun r s1 z => ?_) fun _ _ e => e)
    obtain ⟨rfl, rfl⟩ := z
    refine wpAny_bind (wpAny_mono two (fun r s1 z => ?_) fun _ _ e => e)
    obtain ⟨rfl, rfl⟩ := z
    exact wpAny_bind (wpAny_rule (wpAny_bind (wpAny_isSame_ref_other n I.at_ J.at_ (no_tup I) (wpAny_pure hq))))
end
/-- the class C has no == of its own -/
structure EqC (K : PySem.W.Frag) (C : Addr) : Prop where
  mro : PySem.W.mroIn K C (.type "object") = some true
  eq : PySem.W.findIn K (.ref C) "__eq__" = some (some (.builtin "object.__eq__"))
def rEqI (K : PySem.W.Frag) : R2 := fun x y H Q => ∃ (a b C dx dy : Addr) (fs gs : List (Str × V)), x = .ref a ∧ y = .ref b ∧ H a = some (.ins C dx fs) ∧ H b = some (.ins C dy gs) ∧ EqC K C ∧ Q (.bl (decide (a = b))) H
theorem op_eqI {X : Cx} (hu : X.A.units < cLine) : OpR X (compareOp .Eq) (rEqI X.K) := by
  intro pins s σ H x y v u Q I rx ry h
  obtain ⟨a, b, C, dx, dy, fs, gs, rfl, rfl, ha, hb, T, q⟩ := h
  cases rx
  cases ry
  obtain ⟨mA, O, _⟩ := ins_get I.hok ha
  obtain ⟨mB, O', _⟩ := ins_get I.hok hb
  obtain ⟨od, J, _⟩ := O.look
  obtain ⟨od', J', _⟩ := O'.look
  exact rc_ins hu I.kIn J J' T.mro T.eq ⟨.bl (decide (a = b)), H, I, rfl, q⟩
end Xq
set_option Elab.async false
set_option linter.all false
set_option maxRecDepth 100000
set_option maxHeartbeats 4000000
namespace Xd
open PySem PySem.Spec PyProof.Rows L2
theorem turn_out (kx vx t0 i0 t1 i1 : Expr) (scope : Scope) (pos : Pos) (it acc : Value) (env : Env) :
    compTurn (.DictComp kx vx [⟨t0, i0, [], 0⟩, ⟨t1, i1, [], 0⟩] scope pos) 0 it acc env = (do
      standAt i0.pos
      match ← pyNext it with
      | none => pure (.done .next)
      | some v => do
        letOwnedTupleGo t0 it v
        assign t0 env v
        let x ← eval i1 env
        standAt i1.pos
        let z ← foldedSetIterable i1 env x
        let _ ← runOwn (.compStart (.DictComp kx vx [⟨t0, i0, [], 0⟩, ⟨t1, i1, [], 0⟩] scope pos) 1 (← holding [z] (pyIter z)) acc env) env
        again (.compLoop (.DictComp kx vx [⟨t0, i0, [], 0⟩, ⟨t1, i1, [], 0⟩] scope pos) 0 it acc env)) := by rfl
theorem turn_in (kx vx t0 i0 t1 i1 : Expr) (scope : Scope) (pos : Pos) (it : Value) (D : Addr) (env : Env) :
    compTurn (.DictComp kx vx [⟨t0, i0, [], 0⟩, ⟨t1, i1, [], 0⟩] scope pos) 1 it (.ref D) env = (do
      standAt i1.pos
      match ← pyNext it with
      | none => pure (.done .next)
      | some v => do
        letOwnedTupleGo t1 it v
        assign t1 env v
        (do
          let kv ← eval kx env
          let vv ← holding [kv] (eval vx env)
          standAt { kx.pos with endLine := vx.pos.endLine, endCol := vx.pos.endCol }
          holding [kv, vv] (dictSet D kv vv))
        again (.compLoop (.DictComp kx vx [⟨t0, i0, [], 0⟩, ⟨t1, i1, [], 0⟩] scope pos) 1 it (.ref D) env)) := by rfl
section
variable {prog : Program} {w : World} {A : Around} {R : Result → Shared → Prop} {s : Shared} {kx vx t0 i0 t1 i1 : Expr} {scope : Scope} {pos : Pos} {it acc : Value} {env : Env} {D : Addr}
theorem loop_out (hs : ∀ x, foldedSetIterable i1 env x = pure x) (I : Nat → Shared → Prop)
    (turn : ∀ n s, I n s → wpAny (model prog w) A (pyNext it) (fun r s₁ => (r = none → R (.ok .next) s₁) ∧ ∀ v, r = some v →
        wpAny (model prog w) A (letOwnedTupleGo t0 it v) (fun _ s₂ => wpAny (model prog w) A (assign t0 env v) (fun _ s₃ => wpAny (model prog w) A (eval i1 env) (fun x s₄ => wpAny (model prog w) A (pyIter x) (fun it1 s₅ =>
          codeAny (model prog w) A (.compStart (.DictComp kx vx [⟨t0, i0, [], 0⟩, ⟨t1, i1, [], 0⟩] scope pos) 1 it1 acc env) (fun r s' => (∃ f, r = .ok f) ∧ ∃ m, m < n ∧ I m s') s₅)
            (fun _ _ => False) s₄) (fun _ _ => False) s₃) (fun _ _ => False) s₂) (fun _ _ => False) s₁) (fun _ _ => False) s) (n : Nat) (h : I n s) :
    codeAny (model prog w) A (.compLoop (.DictComp kx vx [⟨t0, i0, [], 0⟩, ⟨t1, i1, [], 0⟩] scope pos) 0 it acc env) R s := by
  refine codeAny_loop rfl I (fun n s hI => ?_) n h
  show wpAny _ A ((compTurn (.DictComp kx vx [⟨t0, i0, [], 0⟩, ⟨t1, i1, [], 0⟩] scope pos) 0 it acc env).onRaise (fun x => do noteFrame x env; theTreesLotGoes x)) _ _ s
  refine wpAny_noted ?_
  rw [turn_out]
  refine wpAny_bind (wpAny_standAt (wpAny_bind (thnF (turn n s hI) fun r s₁ h₁ => ?_)))
  obtain ⟨hn, hv⟩ := h₁
  cases r with
  | none => exact wpAny_pure (hn rfl)
  | some v =>
    refine wpAny_bind (thnF (hv v rfl) fun _ s₂ h₂ => wpAny_bind (thnF h₂ fun _ s₃ h₃ => wpAny_bind (thnF h₃ fun x s₄ h₄ => ?_)))
    refine wpAny_bind (wpAny_standAt (wpAny_bind (wpAny_of_eq (hs x) (wpAny_bind (wpAny_holding (thnF h₄ fun it1 s₅ h₅ => ?_))))))
    refine wpAny_bind (wpAny_runOwn ?_)
    rw [Around.mark_none]
    refine codeAny_mono h₅ fun r s' hr => ?_
    obtain ⟨⟨f, rfl⟩, hr⟩ := hr
    first
      | exact wpAny_pure ⟨rfl, hr⟩
      | exact wpAny_bind (wpAny_pure (wpAny_pure ⟨rfl, hr⟩))
theorem loop_in (I : Nat → Shared → Prop)
    (turn : ∀ n s, I n s → wpAny (model prog w) A (pyNext it) (fun r s₁ => (r = none → R (.ok .next) s₁) ∧ ∀ v, r = some v →
        wpAny (model prog w) A (letOwnedTupleGo t1 it v) (fun _ s₂ => wpAny (model prog w) A (assign t1 env v) (fun _ s₃ => wpAny (model prog w) A (eval kx env) (fun kv s₄ => wpAny (model prog w) A (eval vx env) (fun vv s₅ =>
          wpAny (model prog w) A (dictSet D kv vv) (fun _ s₆ => ∃ m, m < n ∧ I m s₆) (fun _ _ => False) s₅) (fun _ _ => False) s₄) (fun _ _ => False) s₃) (fun _ _ => False) s₂) (fun _ _ => False) s₁) (fun _ _ => False) s) (n : Nat) (h : I n s) :
    codeAny (model prog w) A (.compLoop (.DictComp kx vx [⟨t0, i0, [], 0⟩, ⟨t1, i1, [], 0⟩] scope pos) 1 it (.ref D) env) R s := by
  refine codeAny_loop rfl I (fun n s hI => ?_) n h
  show wpAny _ A ((compTurn (.DictComp kx vx [⟨t0, i0, [], 0⟩, ⟨t1, i1, [], 0⟩] scope pos) 1 it (.ref D) env).onRaise (fun x => do noteFrame x env; theTreesLotGoes x)) _ _ s
  refine wpAny_noted ?_
  rw [turn_in]
  refine wpAny_bind (wpAny_standAt (wpAny_bind (thnF (turn n s hI) fun r s₁ h₁ => ?_)))
  obtain ⟨hn, hv⟩ := h₁
  cases r with
  | none => exact wpAny_pure (hn rfl)
  | some v =>
    refine wpAny_bind (thnF (hv v rfl) fun _ s₂ h₂ => wpAny_bind (thnF h₂ fun _ s₃ h₃ => wpAny_bind (wpAny_bind (thnF h₃ fun kv s₄ h₄ => ?_))))
    exact wpAny_bind (wpAny_holding (thnF h₄ fun vv s₅ h₅ => wpAny_bind (wpAny_standAt (wpAny_holding (thnF h₅ fun _ s₆ h₆ => wpAny_pure ⟨rfl, h₆⟩)))))
theorem start_in (h0 : codeAny (model prog w) A (.compLoop (.DictComp kx vx [⟨t0, i0, [], 0⟩, ⟨t1, i1, [], 0⟩] scope pos) 1 it acc env) R s)
    (h : wpAny (model prog w) A (pyIter it) (fun it' s' => codeAny (model prog w) A (.compLoop (.DictComp kx vx [⟨t0, i0, [], 0⟩, ⟨t1, i1, [], 0⟩] scope pos) 1 it' acc env) R s') (fun _ _ => False) s) :
    codeAny (model prog w) A (.compStart (.DictComp kx vx [⟨t0, i0, [], 0⟩, ⟨t1, i1, [], 0⟩] scope pos) 1 it acc env) R s := by
  refine codeAny_of_tree ?_
  show wpAny _ _ ((compStart (.DictComp kx vx [⟨t0, i0, [], 0⟩, ⟨t1, i1, [], 0⟩] scope pos) 1 it acc env).onRaise (fun x => do noteFrame x env; standAt theWindowsPlace)) _ _ s
  refine wpAny_notedAt ?_
  unfold compStart
  show wpAny _ _ (ask >>= _) _ _ s
  refine wpAny_bind (wpAny_askSetting (wpAny_ite ?_))
  split
  · first
      | exact wpAny_bind (wpAny_pure (wpAny_pure (And.intro rfl h0)))
      | exact wpAny_pure (And.intro rfl h0)
  · have go : ∀ {E : Value → Shared → Prop}, wpAny (model prog w) A (do standAt i1.pos; again (.compLoop (.DictComp kx vx [⟨t0, i0, [], 0⟩, ⟨t1, i1, [], 0⟩] scope pos) 1 (← pyIter it) acc env)) (fun fin s' => match fin with
          | .done f => R (.ok f) s'
          | .again c' => c'.quiet = true ∧ codeAny (model prog w) A c' R s') E s := wpAny_bind (wpAny_standAt (wpAny_bind (thnF h fun it' s' h' => wpAny_pure (And.intro rfl h'))))
    first
      | exact wpAny_bind (wpAny_rule go)
      | exact wpAny_bind (wpAny_rule (wpAny_bind (wpAny_standAt (wpAny_bind (thnF h fun it' s' h' => wpAny_pure (And.intro rfl h'))))))
end

section
variable {X : Cx} {pins : List (Addr × Obj)} {σ : L2.St} {H : Hp} {s : Shared}
theorem set_tup {E : Value → Shared → Prop} {D b : Addr} {kvs : List (List Key × V)} {k : List Key} {v : V} {r : Value} {Q : Unit → Shared → Prop} (hu : X.A.units < cLine) (I : Inv X pins σ H s) (hD : H D = some (.dT kvs)) (hb : H b = some (.tup (k.map kV))) (hz : kvs.length < sizeLine)
    (rv : RelV v r) (h : ∀ s', Inv X pins σ (upd H D (.dT (putK kvs k v))) s' → Q () s') : wpAny (model X.prog X.w) X.A (dictSet D (.ref b) r) Q E s := by
  obtain ⟨z, hd, xs, rel, dd⟩ := dt_of I.hok hD
  have hx : xs.length ≤ sizeLine := by rw [← Paired.length rel]; exact z
  have hl : (putK kvs k v).length ≤ sizeLine := by have := length_putK kvs k v; omega
  refine wpAny_dictSet_heap (hsz := hx) hu (key_of I.hok hb) dd fun h' dd' hs => h _ ?_
  obtain ⟨q, es, ep, hq, h2, h3, h4, _, h5⟩ := dd'
  refine d_write I (by rw [hD]; exact True.intro) hs ⟨q, hq⟩ ⟨hl, hd, _, (rel.put k hb rv).keeps fun c ys ec => ?_, q, es, ep, hq, h2, h3, h4, h5⟩
  rw [upd_ne (ne_of ec hD (fun z => nomatch z))]
  exact ec
end
def tDc2 (wi : TI) (g : TG) (wi1 : TI) (g1 : TG) (tk tv : TE) (vs vs1 : List Nat) : TE := fun σ H Q => wi σ H fun J H1 => ∀ D, H1 D = none → ∃ W : Nat → Nat → Hp → Prop, (∃ m, W 0 m (upd H1 D (.dT []))) ∧ ∀ i m H, W i m H →
  (J.stop i H ∧ Q (.ref D) H) ∨ (J.go i H ∧ ∃ Nx : Hp → Prop, (∀ H', Nx H' → ∃ m', m' < m ∧ W (i + 1) m' H') ∧ ∀ x H', J.yld i H x H' → g x (wipe σ vs) H' fun σ2 H2 => wipe σ2 vs = wipe σ vs ∧
    wi1 σ2 H2 fun J1 H3 => ∃ W1 : Nat → Nat → Hp → Prop, (∃ m, W1 0 m H3) ∧ ∀ j k H, W1 j k H → (J1.stop j H ∧ Nx H) ∨ (J1.go j H ∧ ∃ Nx1 : Hp → Prop, (∀ H', Nx1 H' → ∃ k', k' < k ∧ W1 (j + 1) k' H') ∧
      ∀ y H', J1.yld j H y H' → g1 y (wipe σ2 vs1) H' fun σ3 H4 => wipe σ3 vs1 = wipe σ2 vs1 ∧ tk σ3 H4 fun ky H5 => tv σ3 H5 fun z H6 => ∃ (b : Addr) (key : List Key) (kvs : List (List Key × V)), ky = .ref b ∧ H6 b = some (.tup (key.map kV)) ∧
        H6 D = some (.dT kvs) ∧ kvs.length < sizeLine ∧ Nx1 (upd H6 D (.dT (putK kvs key z)))))
section
variable {X : Cx}
theorem pe_dc2 {kx vx t0 i0 t1 i1 : Expr} {scope : Scope} {own : List (Str × Nat)} {vs1 : List Nat} {pos : Pos} {wi wi1 : TI} {g g1 : TG} {tk tv : TE} (hc : X.calm = true) (hu : X.A.units < cLine) (hN : X.N.Nodup) (hi : PI X t0 i0 wi) (ok : BlkOk X.N X.env.scope scope own) (hv : ∀ i ∈ vs1, i ∈ own.map (·.2))
    (hg : ∀ (s : Shared) (H : Hp) (C : Addr) (cl : List (Str × Addr)) (fp : List Addr), PG (X.blk s H scope (compEnvC scope cl C X.env) fp) t0 g)
    (hi1 : ∀ (s : Shared) (H : Hp) (C : Addr) (cl : List (Str × Addr)) (fp : List Addr), PI (X.blk s H scope (compEnvC scope cl C X.env) fp) t1 i1 wi1)
    (hg1 : ∀ (s : Shared) (H : Hp) (C : Addr) (cl : List (Str × Addr)) (fp : List Addr), PG (X.blk s H scope (compEnvC scope cl C X.env) fp) t1 g1)
    (hk : ∀ (s : Shared) (H : Hp) (C : Addr) (cl : List (Str × Addr)) (fp : List Addr), PE (X.blk s H scope (compEnvC scope cl C X.env) fp) kx tk)
    (he : ∀ (s : Shared) (H : Hp) (C : Addr) (cl : List (Str × Addr)) (fp : List Addr), PE (X.blk s H scope (compEnvC scope cl C X.env) fp) vx tv)
    (hs : ∀ x, foldedSetIterable i0 X.env x = pure x := by intro _; rfl) (hs1 : ∀ env x, foldedSetIterable i1 env x = pure x := by intro _ _; rfl) :
    PE X (.DictComp kx vx [⟨t0, i0, [], 0⟩, ⟨t1, i1, [], 0⟩] scope pos) (tDc2 wi g wi1 g1 tk tv (own.map (·.2)) vs1) := by
  refine ⟨fun pins s σ H Q I h => ?_⟩
  rw [arm_eval_DictComp]
  have clo : ∀ y ∈ scope.names, y.2 = .free → ∃ c, X.env.cells.lookup y.1 = some c := fun y hy e => (ok.free y hy e).elim (fun k => I.ok.has _ (.inl k)) fun k => I.ok.has _ (.inr k)
  refine wpAny_comprehension_free rfl hs (closure_ok clo) ok.kind (fun y hy e => by rw [ok.uniq y hy, e]) (thn (hi.run pins s σ H _ I h) fun xv s1 hx => thn hx fun itv s2 h2 => ?_)
  obtain ⟨it, fp, tn, J, H2, rfl, I2, T, st2, f2, q⟩ := h2
  refine wpAny_newObj_type (newEnv_comp ?_)
  have hDn : H2 s2.heap.objs.size = none := I2.hok.fresh (Nat.le_refl _)
  obtain ⟨W, ⟨m0, w0⟩, turn⟩ := q _ hDn
  have I3 : Inv X pins σ (upd H2 s2.heap.objs.size (.dT [])) { s2 with heap := s2.heap.push { cls := .type "dict", data := .dict #[] } } :=
    I2.laid (t' := s2.toks) (fun b o e => Heap.get?_push_of_some _ e) (Nat.le_refl _) (dt_empty s2.heap I2.big)
  generalize eD : s2.heap.objs.size = D at *
  generalize e3 : ({ s2 with heap := s2.heap.push { cls := .type "dict", data := .dict #[] } } : Shared) = s3 at *
  have h3 : s3.heap = s2.heap.push { cls := .type "dict", data := .dict #[] } := by rw [← e3]
  have at2 : ∀ b ∈ fp, b < D := fun b hb => by
    obtain ⟨o, e, _⟩ := T.obj _ _ st2 b hb
    rw [← eD]
    exact Heap.lt_size e
  have f3 : ∀ b ∈ fp, FpOk X pins (upd H2 D (.dT [])) b ∧ b < s3.heap.objs.size := fun b hb => by
    refine ⟨⟨by rw [upd_ne (Nat.ne_of_lt (at2 b hb))]; exact (f2 b hb).1, (f2 b hb).2⟩, ?_⟩
    rw [h3, Heap.size_push, eD]
    exact Nat.lt_succ_of_lt (at2 b hb)
  have st3 : tn 0 s3.heap := T.keep _ _ _ st2 fun b _ o e => by rw [h3]; exact Heap.get?_push_of_some _ e
  have I4 := block_start I3 ok hN f3
  have pg := hg s3 (upd H2 D (.dT [])) s3.heap.objs.size (cellsFrom (s3.heap.objs.size + 1) scope.names (cloFrom X.env.cells scope.names [])) fp
  have pi1 := hi1 s3 (upd H2 D (.dT [])) s3.heap.objs.size (cellsFrom (s3.heap.objs.size + 1) scope.names (cloFrom X.env.cells scope.names [])) fp
  have pg1 := hg1 s3 (upd H2 D (.dT [])) s3.heap.objs.size (cellsFrom (s3.heap.objs.size + 1) scope.names (cloFrom X.env.cells scope.names [])) fp
  have pk := hk s3 (upd H2 D (.dT [])) s3.heap.objs.size (cellsFrom (s3.heap.objs.size + 1) scope.names (cloFrom X.env.cells scope.names [])) fp
  have pv := he s3 (upd H2 D (.dT [])) s3.heap.objs.size (cellsFrom (s3.heap.objs.size + 1) scope.names (cloFrom X.env.cells scope.names [])) fp
  have nfp : ∀ b ∈ fp, (upd H2 D (.dT [])) b = none := fun b hb => (f3 b hb).1.1
  show codeAny _ _ (.compStart _ 0 (.ref it) (.ref D) (compEnvC scope (cellsFrom (s3.heap.objs.size + 1) scope.names (cloFrom X.env.cells scope.names [])) s3.heap.objs.size X.env)) (compPost (model X.prog X.w) X.A X.xe _ _ (.ref D) s3.heap.objs.size) { s3 with heap := pushCells (s3.heap.push { cls := .type "dict", data := .dict #[] }) scope.names }
  generalize hce : compEnvC scope (cellsFrom (s3.heap.objs.size + 1) scope.names (cloFrom X.env.cells scope.names [])) s3.heap.objs.size X.env = ce at I4 pg pi1 pg1 pk pv ⊢
  have cL : ce.locals = s3.heap.objs.size := by subst hce; rfl
  generalize eH : upd H2 D (.dT []) = H3 at I3 I4 pg pi1 pg1 pk pv w0 nfp f3
  generalize e4 : ({ s3 with heap := pushCells (s3.heap.push { cls := .type "dict", data := .dict #[] }) scope.names } : Shared) = s4 at I4 ⊢
  have st4 : tn 0 s4.heap := T.keep _ _ _ st3 fun b _ o e => by rw [← e4]; exact pushCells_keeps _ _ _ _ (Heap.get?_push_of_some _ e)
  have stat : ∀ {σ' : L2.St} {H' : Hp} {s' : Shared}, Inv (X.blk s3 H3 scope ce fp) [] σ' H' s' → (∀ b ∈ fp, H' b = none) → ∀ b ∈ fp, FpOk (X.blk s3 H3 scope ce fp) [] H' b := fun I' hn b hb =>
    ⟨hn b hb, (I'.ok.exf b hb).1, I'.ok.exfs b hb, .inl hb, fun x c e => (I'.ok.exf b hb).2 x c e, fun p hp => absurd (show p ∈ ([] : List (Addr × Obj)) ++ [] from hp) (by simp)⟩
  have fin0 : ∀ {n i : Nat} {Nx : Hp → Prop} {s7 : Shared}, (∀ H', Nx H' → ∃ m', m' < n ∧ W (i + 1) m' H') → tn (i + 1) s7.heap → ∀ {τ : L2.St} {s' : Shared} {H' : Hp}, Inv (X.blk s3 H3 scope ce fp) ([] ++ pinsAt fp s7.heap) τ H' s' → (wipe σ (own.map (·.2))).length = τ.length →
      (∀ (j : Nat) v, (wipe σ (own.map (·.2)))[j]? = some (some v) → τ[j]? = some (some v)) → Nx H' → ∃ m, m < n ∧ ∃ i H', Inv (X.blk s3 H3 scope ce fp) [] (wipe σ (own.map (·.2))) H' s' ∧ tn i s'.heap ∧ (∀ b ∈ fp, H' b = none) ∧ W i m H' := by
    intro n i Nx s7 hNx st7 τ s' H' I' hl hk nx
    obtain ⟨m', hm, w'⟩ := hNx H' nx
    have held : ∀ b ∈ fp, ∀ o, s7.heap.get? b = some o → s'.heap.get? b = some o ∧ H' b = none := fun b hb o e =>
      let z := I'.pin (b, o) (List.mem_append_right _ (List.mem_append_right _ (mem_pinsAt hb e)))
      ⟨z.1, z.2.1⟩
    refine ⟨m', hm, i + 1, H', (I'.unpinned (pins := [])).weak hl hk, T.keep _ _ _ st7 fun b hb o e => (held b hb o e).1, fun b hb => ?_, w'⟩
    obtain ⟨o, e, _⟩ := T.obj _ _ st7 b hb
    exact (held b hb o e).2
  have loop : codeAny (model X.prog X.w) X.A (.compLoop (.DictComp kx vx [⟨t0, i0, [], 0⟩, ⟨t1, i1, [], 0⟩] scope pos) 0 (.ref it) (.ref D) ce) (compPost (model X.prog X.w) X.A X.xe none (EP X pins σ Q) (.ref D) s3.heap.objs.size) s4 := by
    refine loop_out (hs1 ce) (fun n s' => ∃ i H', Inv (X.blk s3 H3 scope ce fp) [] (wipe σ (own.map (·.2))) H' s' ∧ tn i s'.heap ∧ (∀ b ∈ fp, H' b = none) ∧ W i n H') ?_ m0 ⟨0, H3, I4, st4, nfp, w0⟩
    rintro n s5 ⟨i, H5, I5, st5, n5, w5⟩
    rcases turn i n H5 w5 with ⟨stop, qq⟩ | ⟨go, Nx, hNx, step⟩
    · refine thnF (T.done (X.blk s3 H3 scope ce fp) rfl rfl rfl hc i [] s5 _ H5 (fun _ _ => False) I5 (stat I5 n5) st5 stop) fun r s6 ⟨hr, I6⟩ => ⟨fun _ => ?_, fun v z => by rw [hr] at z; cases z⟩
      have I7 : Inv X pins σ H5 s6 := I3.call' (ch := fp) I6.os I6.base I6.hok I6.bare fun b hb => ⟨(f3 b hb).1.2.2.2.1, (f3 b hb).1.2.1, (f3 b hb).1.2.2.2.2.1, (f3 b hb).1.2.2.2.2.2⟩
      have nC : H5 s3.heap.objs.size = none := by
        have z : H5 ce.locals = none := I6.free
        rw [cL] at z
        exact z
      obtain ⟨m, hn, _⟩ := I6.loc
      have hn : s6.heap.Ns ce.locals m := hn
      rw [cL] at hn
      obtain ⟨g0, g1, g2, g3, g4, g5⟩ := I3.fpOk (Nat.le_refl _) nC
      exact ⟨m, hn, fun h'' sb => ⟨.ref D, H5, I7.turned (t' := s6.toks) (fun b o hb e => (sb.2 b hb).trans e) g0 g1 g3 g4 g5, rfl, qq⟩⟩
    · refine thnF (T.item (X.blk s3 H3 scope ce fp) rfl rfl rfl hc i [] s5 _ H5 (fun _ _ => False) I5 (stat I5 n5) st5 go) fun r s6 ⟨u, hr, h6⟩ => ⟨fun z => (by rw [hr] at z; cases z), fun v z => ?_⟩
      rw [hr] at z
      cases z
      refine thnF h6 fun _ s7 ⟨x, H7, I7, r7, y7, st7, n7⟩ => ?_
      have I7' := I7.pinned (stat I7 n7) (T.obj _ _ st7)
      refine thnF (pg.run _ s7 _ H7 x u _ I7' r7 (step x H7 y7)) fun _ s8 ⟨σ8, H8, I8, hw8, q8⟩ => ?_
      have hl8 : (wipe σ (own.map (·.2))).length = σ8.length := by rw [← hw8, wipe_length]
      have hk9 : ∀ (j : Nat) v, (wipe σ (own.map (·.2)))[j]? = some (some v) → (wipe σ8 vs1)[j]? = some (some v) := fun j v e => by
        rw [← hw8] at e
        obtain ⟨e1, e2⟩ := wipe_some e
        rw [wipe_out fun z => e2 (hv j z)]
        exact e1
      refine thnF (pi1.run _ s8 σ8 H8 _ I8 q8) fun xv s9 hx => thnF hx fun itv s10 h10 => ?_
      obtain ⟨it1, fp1, tn1, J1, H10, rfl, I10, T1, st10, f10, W1, ⟨m1, w1⟩, turn1⟩ := h10
      have stat1 : ∀ {H' : Hp}, (∀ b ∈ fp1, H' b = none) → ∀ b ∈ fp1, FpOk (X.blk s3 H3 scope ce fp) ([] ++ pinsAt fp s7.heap) H' b := fun hn b hb => ⟨hn b hb, (f10 b hb).2⟩
      have inner : codeAny (model X.prog X.w) X.A (.compLoop (.DictComp kx vx [⟨t0, i0, [], 0⟩, ⟨t1, i1, [], 0⟩] scope pos) 1 (.ref it1) (.ref D) ce)
          (fun r s' => (∃ f, r = .ok f) ∧ ∃ m, m < n ∧ ∃ i H', Inv (X.blk s3 H3 scope ce fp) [] (wipe σ (own.map (·.2))) H' s' ∧ tn i s'.heap ∧ (∀ b ∈ fp, H' b = none) ∧ W i m H') s10 := by
        refine loop_in (fun k s' => ∃ j H', Inv (X.blk s3 H3 scope ce fp) ([] ++ pinsAt fp s7.heap) (wipe σ8 vs1) H' s' ∧ tn1 j s'.heap ∧ (∀ b ∈ fp1, H' b = none) ∧ W1 j k H') ?_ m1 ⟨0, H10, I10.weak (wipe_length _ _) (fun j v e => (wipe_some e).1), st10, fun b hb => (f10 b hb).1, w1⟩
        rintro k s12 ⟨j, H12, I12, st12, n12, w12⟩
        rcases turn1 j k H12 w12 with ⟨stop1, nx1⟩ | ⟨go1, Nx1, hNx1, step1⟩
        · refine thnF (T1.done (X.blk s3 H3 scope ce fp) rfl rfl rfl hc j _ s12 (wipe σ8 vs1) H12 (fun _ _ => False) I12 (stat1 n12) st12 stop1) fun r s13 hrI => ?_
          obtain ⟨hr, I13⟩ := hrI
          refine ⟨fun _ => ?_, fun v z => ?_⟩
          · exact ⟨⟨_, rfl⟩, fin0 hNx st7 I13 (hl8.trans (wipe_length σ8 vs1).symm) hk9 nx1⟩
          · rw [hr] at z
            cases z
        · refine thnF (T1.item (X.blk s3 H3 scope ce fp) rfl rfl rfl hc j _ s12 (wipe σ8 vs1) H12 (fun _ _ => False) I12 (stat1 n12) st12 go1) fun r s13 ⟨u1, hr, h13⟩ => ⟨fun z => (by rw [hr] at z; cases z), fun v z => ?_⟩
          rw [hr] at z
          cases z
          refine thnF h13 fun _ s14 ⟨x1, H14, I14, r14, y14, st14, n14⟩ => ?_
          have I14' := I14.pinned (stat1 n14) (T1.obj _ _ st14)
          refine thnF (pg1.run _ s14 (wipe σ8 vs1) H14 x1 u1 _ I14' r14 (step1 x1 H14 y14)) fun _ s15 ⟨σ15, H15, I15, hw15, q15⟩ => ?_
          refine thnF (pk.run _ s15 σ15 H15 _ I15 q15) fun kv s16 ⟨yk, H16, I16, r16, q16⟩ => ?_
          refine thnF (pv.run _ s16 σ15 H16 _ I16 q16) fun vv s17 ⟨yv, H17, I17, r17, b, key, kvs, ek, hb, hD, hz, nx⟩ => ?_
          subst ek
          obtain rfl : kv = Value.ref b := r16
          refine set_tup (X := X.blk s3 H3 scope ce fp) hu I17 hD hb hz r17 fun s18 I18 => ?_
          obtain ⟨m', hm, w'⟩ := hNx1 _ nx
          have held : ∀ c ∈ fp1, ∀ o, s14.heap.get? c = some o → s18.heap.get? c = some o ∧ (upd H17 D (.dT (putK kvs key yv))) c = none := fun c hc o e =>
            let z := I18.pin (c, o) (List.mem_append_right _ (List.mem_append_right _ (mem_pinsAt hc e)))
            ⟨z.1, z.2.1⟩
          refine ⟨m', hm, j + 1, _, I18.unpinned.weak (by rw [← hw15, wipe_length]) (fun j v e => by rw [← hw15] at e; exact (wipe_some e).1), T1.keep _ _ _ st14 fun c hc o e => (held c hc o e).1, fun c hc => ?_, w'⟩
          obtain ⟨o, e, _⟩ := T1.obj _ _ st14 c hc
          exact (held c hc o e).2
      exact start_in inner (T1.self X.A 0 _ _ _ st10 inner)
  exact codeAny_compStart_dict loop (T.self X.A 0 _ _ _ st4 loop)
end
end Xd
set_option Elab.async false
set_option linter.all false
set_option maxRecDepth 100000
set_option maxHeartbeats 4000000
namespace Xk
open PySem PySem.Spec PyProof.Rows L2
/-- the written dict at p has, by a text, what g tells -/
def KHas (K : PySem.W.Frag) (w : World) (p : Addr) (g : Str → Option V) : Prop :=
  ∃ es n, K.lookup p = some ⟨.type "dict", none, .dict es n, #[]⟩ ∧ PySem.W.KeysLit w.params es.toList ∧ (p == sysModules) = false ∧ ∀ z, RelO (g z) (findBy Value.isStrOf es z)
theorem isSome_of {o : Option V} {u : Option Value} (r : RelO o u) : u.isSome = o.isSome := by
  cases o <;> cases u <;> first | rfl | exact r.elim
section
variable {X : Cx}
def rInK (K : PySem.W.Frag) (w : World) (neg : Bool) : R2 := fun x y H Q => ∃ (z : Str) (p : Addr) (g : Str → Option V), x = .str z ∧ y = .ref p ∧ KHas K w p g ∧ Q (.bl (if neg then !(g z).isSome else (g z).isSome)) H
theorem op_notInK : OpR X (compareOp .NotIn) (rInK X.K X.w true) := by
  intro pins s σ H x y v u Q I rx ry h
  obtain ⟨z, p, g, rfl, rfl, ⟨es, n, hl, hk, hd, hg⟩, q⟩ := h
  obtain ⟨t, rfl⟩ := rx
  obtain rfl : u = Value.ref p := ry
  refine wpAny_notIn_of (strKind_is X.prog X.w z t) hd (PySem.W.mapOf_K (prog := X.prog) (w := X.w) I.kIn hl hk) ⟨_, H, I.tok _, ?_, q⟩
  show Value.bool _ = Value.bool _
  rw [isSome_of (hg z)]
  rfl
theorem op_inK : OpR X (compareOp .In) (rInK X.K X.w false) := by
  intro pins s σ H x y v u Q I rx ry h
  obtain ⟨z, p, g, rfl, rfl, ⟨es, n, hl, hk, hd, hg⟩, q⟩ := h
  obtain ⟨t, rfl⟩ := rx
  obtain rfl : u = Value.ref p := ry
  refine wpAny_in_of (strKind_is X.prog X.w z t) hd (PySem.W.mapOf_K (prog := X.prog) (w := X.w) I.kIn hl hk) ⟨_, H, I.tok _, ?_, q⟩
  show Value.bool _ = Value.bool _
  rw [isSome_of (hg z)]
  rfl
def tKGet (K : PySem.W.Frag) (w : World) (to : TE) (ta : TA) : TE := fun σ H Q => to σ H fun x H1 => ∃ (p : Addr) (g : Str → Option V), x = .ref p ∧ KHas K w p g ∧ ta σ H1 fun vs H2 => ∃ (z : Str) (d : V), vs = [.str z, d] ∧ Q ((g z).getD d) H2
theorem pe_kget {o e f : Expr} {to : TE} {ta : TA} {apos cpos : Pos} (ho : PE X o to) (ha : PA X [e, f] ta)
    (hbase : attributeBase o "get" X.env (eval o X.env) = eval o X.env := by rfl)
    (hfew : ((backTo cpos (starEach [e, f] X.env)).all (fun x => !x.1) && (backToKw cpos (keywordEach [] X.env)).all (fun x => x.1.isSome)
      && decide ([e, f].length + ([] : List Keyword).length + (if ([] : List Keyword).isEmpty then 0 else 1) < 30)) = true := by rfl)
    (hline : (apos.endLine == cpos.line) = true := by rfl) (hs : starEach [e, f] X.env = [(false, eval e X.env), (false, eval f X.env)] := by rfl) :
    PE X (.Call (.Attribute o "get" apos) [e, f] [] cpos) (tKGet X.K X.w to ta) := by
  refine ⟨fun pins s σ H Q I h => wpAny_Call_method_late hbase hfew hline rfl (thn (ho.run pins s σ H _ I h) fun v s1 ⟨x, H1, I1, r1, q1⟩ => ?_)⟩
  obtain ⟨p, g, rfl, ⟨es, n, hl, hk, hd, hg⟩, q1⟩ := q1
  obtain rfl : v = Value.ref p := r1
  have hm := PySem.W.mapOf_K (prog := X.prog) (w := X.w) I1.kIn hl hk
  refine ⟨"dict", _, PySem.F.plainAttrs_dict, PySem.F.slot_dict_get, PySem.F.type_dict_get, hm.typeIs, fun a e => ⟨_, I1.kIn _ _ (by cases e; exact hl), rfl⟩, ?_⟩
  have hA := ha.run cpos pins s1 σ H1 _ I1 q1
  rw [hs] at hA ⊢
  refine Calls.callWith_builtin rfl (Calls.evalArgs_plain (thn hA fun us s2 ⟨vs, H2, I2, r2, z, d, ev, q2⟩ => ?_))
  subst ev
  obtain ⟨u1, u2, rfl, ru1, ru2⟩ := vals2 r2
  obtain ⟨t, rfl⟩ := ru1
  have hm2 := PySem.W.mapOf_K (prog := X.prog) (w := X.w) I2.kIn hl hk
  refine call_meetsIn PySem.F.slot_dict_get hm2.typeIs PySem.F.entry_dict_get (PySem.F.args_dict_get_3 _ _ _) (meets_dict_get_default (strKind X.prog X.w) p (strKind_is X.prog X.w z t) hd u2) ⟨_, hm2, _, H2, I2.tok _, ?_, q2⟩
  have r := hg z
  cases e1 : g z with
  | none =>
    rw [e1] at r
    rw [RelO.none_of r]
    exact ru2
  | some y =>
    rw [e1] at r
    obtain ⟨u, hu, ru⟩ := RelO.some_of r
    rw [hu]
    exact ru
/-- text * int -/
def rRepS : R2 := fun x y H Q => ∃ (z : Str) (n : Int), x = .str z ∧ y = .int n ∧ z.length ≤ 1000 ∧ 0 ≤ n ∧ n ≤ 1000 ∧ Q (.str (Txt.mul z n)) H
theorem op_repS : OpR X (binaryOp .Mult) rRepS := by
  intro pins s σ H x y v u Q I rx ry h
  obtain ⟨z, n, rfl, rfl, hz, h0, h1, q⟩ := h
  obtain ⟨t, rfl⟩ := rx
  obtain ⟨t2, rfl⟩ := ry
  refine PySem.SB.mul ⟨?_, fun h2 _ h3 => ?_, fun h2 _ => ?_⟩ fun t' k => ⟨.str (Txt.mul z n), H, I.tok k, ⟨t', rfl⟩, q⟩
  · simp; omega
  · have h4 : (1000 : Int) ≤ (2 ^ 63 - 1) / n := Int.le_ediv_of_mul_le (by omega) (by omega)
    omega
  · have h5 : z.length * n.toNat ≤ 1000 * 1000 := Nat.mul_le_mul hz (by omega)
    have h6 : ¬ z.length * n.toNat > sizeLine := by rw [sizeLine_eq]; omega
    exact decide_eq_false h6
end
end Xk
set_option Elab.async false
set_option linter.all false
set_option maxRecDepth 100000
set_option maxHeartbeats 4000000
namespace Xl
open PySem PySem.Spec PyProof.Rows L2 Evl
section
variable {K : PySem.W.Frag} {σ : L2.St} {H : Hp} {te ta tb tl : TE} {t : TT}
theorem given_all (n : Nat) (v : Nat → V) : given n (fun _ => true) v = (List.range n).map v := by
  unfold given
  rw [List.filter_eq_self.mpr (fun _ _ => rfl)]
/-- over a text, no tests -/
theorem el_lcS {x : Str} {j : Nat} {vs : List Nat} (v : Nat → V) (h : Ev tl σ H (.str x)) (hz : x.cps.size ≤ 40000) (hw : ∀ y, wipe ((wipe σ vs).set j (some y)) vs = wipe σ vs)
    (he : ∀ (i c : Nat) H1, Ex H H1 → x.cps[i]? = some c → Ev te ((wipe σ vs).set j (some (.str ⟨#[c]⟩))) H1 (v i)) : EvL (tLc (iStr tl) (gName j) tYes te vs) σ H ((List.range x.cps.size).map v) := fun H0 e Q q => h H0 e _ fun H1 e1 => ⟨x, rfl, fun Dl hD =>
  lc_it (walk_str (z := x)) (Cw H1 (fun _ => true) v Dl) ⟨hD, Ex.new hD, upd_same⟩ (fun _ _ _ _ => trivial) (fun i y H' H'' hi p hy => by
    obtain ⟨rfl, c, hc, rfl⟩ := hy
    exact ⟨hw _, cw_turn p (by omega) (fun H3 _ Q k => k H3 (Ex.refl _)) (fun _ => he i c H1 (e.trans e1) hc)⟩)
    (fun H' p => q Dl H' (fresh_back e1 p.1) (e1.trans p.2.1) (by rw [← given_all]; exact p.2.2))⟩
theorem ev_all {bs : List Bool} (h : EvL te σ H (bs.map V.bl)) : Ev (tCB (rAll K) (tCons te tNil)) σ H (.bl (bs.all id)) := fun H1 e Q q =>
  h H1 e _ fun p H2 hp e2 hx => ⟨p, bs, rfl, sq_of hx, q H2 e2⟩
theorem ev_any {bs : List Bool} (h : EvL te σ H (bs.map V.bl)) : Ev (tCB (rAny K) (tCons te tNil)) σ H (.bl (bs.any id)) := fun H1 e Q q =>
  h H1 e _ fun p H2 hp e2 hx => ⟨p, bs, rfl, sq_of hx, q H2 e2⟩
theorem ev_lenS {x : Str} (h : Ev te σ H (.str x)) (hz : x.length ≤ sizeLine) : Ev (tCB (fun xs H Q => ∃ z, xs = [.str z] ∧ z.length ≤ sizeLine ∧ Q (.int z.length) H) (tCons te tNil)) σ H (.int x.length) := fun H1 e Q q =>
  h H1 e _ fun H2 e2 => ⟨x, rfl, hz, q H2 e2⟩
theorem rv_sign {c : Nat} {z : Str} : RV (fun x y H Q => ∃ (c : Nat) (z : Str), x = .str ⟨#[c]⟩ ∧ y = .str z ∧ Q (.bl (decide (c ∈ z.cps.toList))) H) (.str ⟨#[c]⟩) (.str z) H (.bl (decide (c ∈ z.cps.toList))) := fun H1 _ _ q => ⟨c, z, rfl, rfl, q H1 (Ex.refl H1)⟩
theorem rv_signN {c : Nat} {z : Str} : RV (fun x y H Q => ∃ (c : Nat) (z : Str), x = .str ⟨#[c]⟩ ∧ y = .str z ∧ Q (.bl (!decide (c ∈ z.cps.toList))) H) (.str ⟨#[c]⟩) (.str z) H (.bl (!decide (c ∈ z.cps.toList))) := fun H1 _ _ q => ⟨c, z, rfl, rfl, q H1 (Ex.refl H1)⟩
theorem ev_chain {r r' : R2} {tc : TE} {x y z : V} {p q : Bool} (ha : Ev ta σ H x) (hb : Ev tb σ H y) (h1 : RV r x y H (.bl p)) (hc : p = true → Ev tc σ H z) (h2 : p = true → RV r' y z H (.bl q)) : Ev (tChain r r' ta tb tc) σ H (.bl (p && q)) := fun H1 e Q k =>
  ha H1 e _ fun H2 e2 => hb H2 (e.trans e2) _ fun H3 e3 => h1 H3 ((e.trans e2).trans e3) _ fun H4 e4 => ⟨p, rfl, by
    have e14 := (e2.trans e3).trans e4
    cases p with
    | true =>
      show tc σ H4 _
      exact hc rfl H4 (e.trans e14) _ fun H5 e5 => h2 rfl H5 ((e.trans e14).trans e5) _ fun H6 e6 => k H6 ((e14.trans e5).trans e6)
    | false => exact k H4 e14⟩
theorem et_T {b : Bool} (h : Ev te σ H (.bl b)) : EvT (tTest te) σ H b := et_test h
end
end Xl
set_option Elab.async false
set_option linter.all false
set_option maxRecDepth 100000
namespace Mi
abbrev Wd := List Nat
def cd (s : String) : Wd := s.toList.map Char.toNat
def LET : Wd := [97, 98, 99, 100, 101, 102, 103, 104, 105, 106, 107, 108, 109, 110, 111, 112, 113, 114, 115, 116, 117, 118, 119, 120, 121, 122]
def FIG : Wd := [48, 49, 50, 51, 52, 53, 54, 55, 56, 57]
def isLet (c : Nat) : Bool := decide (c ∈ LET)
def isFig (c : Nat) : Bool := decide (c ∈ FIG)
def ARI : List (Wd × Nat) := [([102, 117, 110], 1), ([99, 97, 108, 108], 2), ([108, 101, 116], 2), ([112, 108, 117, 115], 2), ([108, 101, 115, 115], 2), ([112, 105, 99, 107], 3), ([112, 97, 105, 114], 2), ([102, 105, 114, 115, 116], 1), ([115, 101, 99, 111, 110, 100], 1)]
def ari (w : Wd) : Option Nat := ARI.lookup w
def nameOk (w : Wd) : Bool := (decide (1 ≤ w.length) && decide (w.length ≤ 8) && isLet (w.getD 0 0)) && w.all fun c => isLet c || isFig c
def digs (w : Wd) : Wd := match w with
  | 45 :: r => r
  | _ => w
def val (d : Wd) : Nat := d.foldl (fun a c => 10 * a + (c - 48)) 0
def intOf (w : Wd) : Option Int :=
  if digs w = [] ∨ (digs w).all isFig = false then none
  else if (digs w).getD 0 0 = 48 ∧ w ≠ [48] then none
  else some (if w.head? = some 45 then -(val (digs w) : Int) else (val (digs w) : Int))
def written (w : Wd) : Bool := decide (w.length ≤ 3) && match intOf w with
  | none => false
  | some n => decide (-99 ≤ n) && decide (n ≤ 99)
def okFree (w : Wd) : Bool := nameOk w && (ari w).isNone && !(decide (w = [112, 97, 114, 116]) || decide (w = [114, 117, 110]))
structure Nd where
  at_ : Nat
  sign : Wd
  kind : Wd
  named : Wd
  outer : Option Nat
  within : List Nat
  binder : Option Nat
  level : Nat
  deriving DecidableEq, Inhabited
def mkNd (at_ : Nat) (sign : Wd) (outer : Option Nat) (level : Nat) : Nd := ⟨at_, sign, sign, [], outer, [], none, level⟩
def isBind (w : Wd) : Bool := decide (w = [102, 117, 110]) || decide (w = [108, 101, 116])
def readNd (words : List Wd) (at_ : Nat) (outer : Option Nat) (lvl : Nat) : Option Nd :=
  let sign := words.getD at_ []
  let nd := mkNd at_ sign outer lvl
  if 30 < lvl then none
  else if (ari sign).isSome then
    if isBind sign then
      let nm := if at_ + 1 < words.length then words.getD (at_ + 1) [] else []
      if okFree nm then some { nd with named := nm } else none
    else some nd
  else if okFree sign then some { nd with kind := [110, 97, 109, 101] }
  else if written sign then some { nd with kind := [110, 117, 109, 98, 101, 114] } else none
def nth (ns : List Nd) (i : Nat) : Nd := ns.getD i default
def full (ns : List Nd) (i : Nat) : Bool := decide ((nth ns i).within.length = (ari (nth ns i).kind).getD 0)
def popM (ns : List Nd) : Nat → List Nat → List Nat
  | 0, wt => wt
  | f + 1, wt => match wt.getLast? with
    | none => wt
    | some i => if full ns i then popM ns f wt.dropLast else wt
def addIn (ns : List Nd) (wt : List Nat) (i : Nat) : List Nd := match wt.getLast? with
  | none => ns
  | some o => ns.set o { nth ns o with within := (nth ns o).within ++ [i] }
def hangM (ns : List Nd) (wt : List Nat) (i : Nat) : List Nd × List Nat := (addIn ns wt i, popM (addIn ns wt i) (wt.length + 1) (wt ++ [i]))
def lvlOf (ns : List Nd) (o : Option Nat) : Nat := match o with
  | none => 1
  | some o => (nth ns o).level + 1
def loopM (words : List Wd) : Nat → List Nd → List Nat → Nat → Option (List Nd × List Nat)
  | 0, ns, wt, _ => some (ns, wt)
  | f + 1, ns, wt, at_ =>
    if at_ < words.length then
      match readNd words at_ wt.getLast? (lvlOf ns wt.getLast?) with
      | none => none
      | some nd => if ns ≠ [] ∧ wt.getLast? = none then none else
        loopM words f (hangM (ns ++ [nd]) wt ns.length).1 (hangM (ns ++ [nd]) wt ns.length).2 (if nd.named ≠ [] then at_ + 2 else at_ + 1)
    else some (ns, wt)
def climb (ns : List Nd) (sign : Wd) : Nat → Nat → Option Nat → Option Nat
  | 0, _, _ => none
  | _ + 1, _, none => none
  | f + 1, below, some a => if (nth ns a).named = sign ∧ (nth ns a).within.getLast? = some below then some a else climb ns sign f a (nth ns a).outer
def bindM (ns : List Nd) (i : Nat) : Nd := match climb ns (nth ns i).sign (i + 1) i (nth ns i).outer with
  | some a => { nth ns i with binder := some a }
  | none => { nth ns i with kind := [112, 97, 114, 116] }
def bindTo : Nat → List Nd → List Nd
  | 0, ns => ns
  | k + 1, ns => let ms := bindTo k ns; if (nth ms k).kind = [110, 97, 109, 101] then ms.set k (bindM ms k) else ms
def readExpr (words : List Wd) (start : Nat) : Option (List Nd) := match loopM words (words.length + 1) [] [] start with
  | none => none
  | some (ns, wt) => if wt ≠ [] ∨ ns = [] then none else some (bindTo ns.length ns)
structure Ln where
  name : Wd
  told : Wd
  nodes : List Nd
  deriving DecidableEq, Inhabited
def Ln.names (l : Ln) : List Wd := (l.nodes.filter fun n => decide (n.named ≠ [])).map (·.named)
def readLine (told : Wd) : Option Ln :=
  let words := TL.spl [32] 0 [] told
  if 120 < words.length then none
  else if words.getD 0 [] = [114, 117, 110] then (readExpr words 1).map fun ns => ⟨[114, 117, 110], told, ns⟩
  else if words.getD 0 [] = [112, 97, 114, 116] ∧ 2 < words.length ∧ okFree (words.getD 1 []) = true ∧ words.getD 2 [] = [102, 117, 110] then (readExpr words 2).map fun ns => ⟨words.getD 1 [], told, ns⟩
  else none
def canStand (l : Ln) (ahead : List Ln) : Bool :=
  let names := ahead.map (·.name)
  if [114, 117, 110] ∈ names ∨ l.name ∈ names then false
  else if l.name ≠ [114, 117, 110] ∧ names.length = 12 then false
  else if l.name ∈ l.names ∨ (ahead.any fun o => decide (l.name ∈ o.names)) = true then false
  else !(l.names.any fun n => decide (n ∈ names))
def linesM : List Wd → List Ln → Except Nat (List Ln)
  | [], ls => .ok ls
  | told :: r, ls => match readLine told with
    | none => .error (ls.length + 1)
    | some l => if canStand l ls then linesM r (ls ++ [l]) else .error (ls.length + 1)
def known (names : List Wd) (l : Ln) : Bool := l.nodes.all fun n => !decide (n.kind = [112, 97, 114, 116]) || decide (n.sign ∈ names)
def firstUnknown (names : List Wd) : Nat → List Ln → Option Nat
  | _, [] => none
  | k, l :: r => if known names l then firstUnknown names (k + 1) r else some k
def readProg (text : Wd) : Except Nat (List Ln) := match linesM (TL.spl [10] 0 [] text) [] with
  | .error e => .error e
  | .ok ls => if (ls.getLastD default).name ≠ [114, 117, 110] then .error (ls.length + 1)
    else match firstUnknown (ls.dropLast.map (·.name)) 1 ls with
      | some k => .error k
      | none => .ok ls
def errOf (s : String) : Option Nat := match readProg (cd s) with
  | .error e => some e
  | .ok _ => none
end Mi
set_option Elab.async false
set_option linter.all false
set_option maxRecDepth 100000
namespace Mi
open PySem SX
def chk (x : Wd) : Bool := match intOf x with
  | none => true
  | some n => decide (intText? (S x) = some n)
theorem chk_tab : (FIG.all fun a => (chk [a] && chk [45, a]) && FIG.all fun b => (chk [a, b] && chk [45, a, b]) && FIG.all fun c => chk [a, b, c]) = true := by decide +kernel
theorem fig_not45 : (45 : Nat) ∉ FIG := by decide
theorem mem_fig {c : Nat} (h : isFig c = true) : c ∈ FIG := of_decide_eq_true h
theorem chk_all {x : Wd} (h : x.length ≤ 3) (hd : (digs x).all isFig = true) (hn : digs x ≠ []) : chk x = true := by
  have t := chk_tab
  rw [List.all_eq_true] at t
  have t1 : ∀ a ∈ FIG, (chk [a] = true ∧ chk [45, a] = true) ∧ ∀ b ∈ FIG, (chk [a, b] = true ∧ chk [45, a, b] = true) ∧ ∀ c ∈ FIG, chk [a, b, c] = true := fun a ha => by
    have z := t a ha
    simp only [Bool.and_eq_true, List.all_eq_true] at z
    exact z
  match x, h, hd, hn with
  | [], _, _, hn => exact absurd rfl hn
  | [a], _, hd, hn =>
    by_cases e : a = 45
    · subst e; exact absurd rfl hn
    · have z : digs [a] = [a] := by unfold digs; split <;> simp_all
      rw [z] at hd
      exact (t1 a (mem_fig (by simpa using hd))).1.1
  | [a, b], _, hd, hn =>
    by_cases e : a = 45
    · subst e
      have hd : [b].all isFig = true := hd
      exact (t1 b (mem_fig (by simpa using hd))).1.2
    · have z : digs [a, b] = [a, b] := by unfold digs; split <;> simp_all
      rw [z] at hd
      simp only [List.all_cons, List.all_nil, Bool.and_true, Bool.and_eq_true] at hd
      exact ((t1 a (mem_fig hd.1)).2 b (mem_fig hd.2)).1.1
  | [a, b, c], _, hd, hn =>
    by_cases e : a = 45
    · subst e
      have hd : [b, c].all isFig = true := hd
      simp only [List.all_cons, List.all_nil, Bool.and_true, Bool.and_eq_true] at hd
      exact ((t1 b (mem_fig hd.1)).2 c (mem_fig hd.2)).1.2
    · have z : digs [a, b, c] = [a, b, c] := by unfold digs; split <;> simp_all
      rw [z] at hd
      simp only [List.all_cons, List.all_nil, Bool.and_true, Bool.and_eq_true] at hd
      exact ((t1 a (mem_fig hd.1)).2 b (mem_fig hd.2.1)).2 c (mem_fig hd.2.2)
theorem int_text {x : Wd} {n : Int} (h : x.length ≤ 3) (e : intOf x = some n) : intText? (S x) = some n := by
  have e' := e
  unfold intOf at e'
  split at e'
  · cases e'
  · rename_i h1
    have h2 : ¬ digs x = [] := fun z => h1 (.inl z)
    have h3 : (digs x).all isFig = true := by
      cases z : (digs x).all isFig with
      | true => rfl
      | false => exact absurd (.inr z) h1
    have c := chk_all h h3 h2
    unfold chk at c
    rw [e] at c
    exact of_decide_eq_true c
theorem prefix_S (x : Wd) : Txt.removeprefix (S x) (S [45]) = S (digs x) := by
  unfold Txt.removeprefix
  match x with
  | [] => decide +kernel
  | a :: r =>
    have hs : Builtin.Str.subAt (S (a :: r)) (S [45]) 0 = decide (a = 45) := by
      unfold Builtin.Str.subAt
      have e : (S (a :: r)).cps.extract 0 (0 + (S [45]).length) = #[a] := by
        rw [S_len]
        simp
      rw [e]
      by_cases h : a = 45
      · subst h; decide
      · rw [decide_eq_false h]
        simpa using h
    rw [hs]
    by_cases h : a = 45
    · subst h
      have z : digs (45 :: r) = r := rfl
      rw [z, decide_eq_true rfl, if_pos rfl]
      unfold Txt.affix
      have l1 : (S (45 :: r)).length = r.length + 1 := by rw [S_len]; rfl
      have l2 : (S [45]).length = 1 := rfl
      show (if ((S (45 :: r)).length - (S [45]).length == (S (45 :: r)).length) = true then S (45 :: r) else Builtin.Str.strSub (S (45 :: r)) (S [45]).length (S (45 :: r)).length) = S r
      rw [l1, l2, if_neg (by simp)]
      unfold Builtin.Str.strSub
      simp
    · rw [decide_eq_false h]
      have z : digs (a :: r) = a :: r := by unfold digs; split <;> simp_all
      rw [z]
      rfl
end Mi
set_option Elab.async false
set_option linter.all false
set_option maxRecDepth 100000
set_option maxHeartbeats 4000000
namespace K5
open PySem PySem.Spec PyProof.Rows L2 Evl Xl SX Mi
def top (i : Nat) : Stmt := PySem.Challenge.pw_uselots_k06_places_and_names_by_hand.main.body.getD i (.Pass ⟨0, 0, 0, 0⟩)
/-- the names of the module that the program asks for -/
structure Txt (K : PySem.W.Frag) (w : World) (mg : Str → Option Value) : Prop where
  type_ : mg "type" = none
  str_ : mg "str" = none
  len_ : mg "len" = none
  all_ : mg "all" = none
  any_ : mg "any" = none
  int_ : mg "int" = none
  enum_ : mg "enumerate" = none
  tuple_ : mg "tuple" = none
  list_ : mg "list" = none
  isi_ : mg "isinstance" = none
  let_ : ∃ u, mg "LETTERS" = some u ∧ RelV (.str (S LET)) u
  fig_ : ∃ u, mg "FIGURES" = some u ∧ RelV (.str (S FIG)) u
section
variable {P : Program} {w : World} {K : PySem.W.Frag} {mg : Str → Option Value} {base : Heap} {f : Addr} {fd : FuncData}
def spIsText (K : PySem.W.Frag) : Sp := fun vs H Q _ => ∃ x T, vs = [x] ∧ TyB K H x T ∧ Q (.bl (decide (T = "str"))) H
theorem scT : FnScope ["value"] ["value"] (C8.fnScope (top 10)) := C8.fnScope_by (by decide +kernel)
theorem ok_is_text (F : C8.Def K mg "is_text" (top 10) f fd) (b : Binds K fd ["value"] []) (T : Txt K w mg) : C8.Cal P w K mg base 1 "is_text" (spIsText K) [] := by
  refine C8.cal0 F b .nil scT (fun vs H Q E h => by obtain ⟨x, t, rfl, _⟩ := h; rfl) (fun cdv A outer s H vs Q E hr h => ?_)
  obtain ⟨x, t, rfl, ht, k⟩ := h
  refine ⟨_, pss_one (ps_ret (pe_cmpR op_isTy (pe_callTy call_type1 (by rfl) T.type_ (by decide +kernel) (pa_cons (pv 0) pa_nil)) (pe_bltn (v := .ty "str") (by rfl) T.str_ (by decide +kernel) rfl) (nomark _))), ?_⟩
  exact ⟨_, rfl, _, _, rfl, ht, _, _, rfl, rfl, k⟩
def spName : Sp := fun vs H Q _ => ∃ x : Wd, vs = [.str (S x)] ∧ x.length ≤ 9000 ∧ ∀ H', Ex H H' → Q (.bl (nameOk x)) H'
theorem scN : FnScope ["word", "sign"] ["word"] (C8.fnScope (top 13)) := C8.fnScope_by (by decide +kernel)
theorem ok_is_name (F : C8.Def K mg "is_name" (top 13) f fd) (b : Binds K fd ["word"] []) (T : Txt K w mg) : C8.Cal P w K mg base 1 "is_name" spName [] := by
  refine C8.cal0 F b .nil scN (fun vs H Q E h => by obtain ⟨x, rfl, _⟩ := h; rfl) (fun cdv A outer s H vs Q E hr h => ?_)
  obtain ⟨x, rfl, hx, k⟩ := h
  refine ⟨_, pss_cons (ps_if (pw_or (pt_not (pt_chain op_le op_le pe_int (pe_callB call_len_str (by rfl) T.len_ boot_len (pa_cons (pv 0) pa_nil)) pe_int))
        (pw_or1 (pt_cmpR op_notIn_sign (pe_ix ix_str (pv 0) pe_int (fun _ _ => rfl)) (C8.pe_gc (by rfl) T.let_) rfl))).pt (pss_one (ps_ret pe_bl)) pss_nil)
    (pss_one (ps_ret (pe_callB (cr_all rfl) (by rfl) T.all_ boot_all (pa_cons (pe_lc (own := [("sign", 1)]) (g := gName 1) (tt := tYes) rfl scN.nd (pi_str (pv 0)) (blkOk_by (N := ["word", "sign"]) (sc := C8.fnScope (top 13)) (by decide +kernel))
      (fun _ _ _ _ _ => pg_name (i := 1) scN.nd rfl (Or.inl rfl)) (fun _ _ _ _ _ => pts_nil)
      (fun _ _ _ _ _ => pe_or (pe_cmpR op_in_sign (pv 1) (C8.pe_gc (by rfl) T.let_) rfl) (pe_one (pe_cmpR op_in_sign (pv 1) (C8.pe_gc (by rfl) T.fig_) rfl)))) pa_nil)))), ?_⟩
  have v0 : ∀ {H1 : Hp}, Ev (tVar 0) (start ["word", "sign"] [V.str (S x)]) H1 (.str (S x)) := ev_var rfl
  have hl : (S x).length = x.length := S_len x
  have small : (S x).length ≤ sizeLine := by rw [hl, sizeLine_eq]; omega
  have len0 : ∀ {H1 : Hp}, Ev (tCB (fun xs H Q => ∃ z, xs = [.str z] ∧ z.length ≤ sizeLine ∧ Q (.int z.length) H) (tCons (tVar 0) tNil)) (start ["word", "sign"] [V.str (S x)]) H1 (.int (x.length : Int)) := ev_is (ev_lenS v0 small) (by rw [hl])
  refine q_when (b := !(decide ((1 : Int) ≤ (x.length : Int)) && decide ((x.length : Int) ≤ 8)) || !(isLet (x.getD 0 0))) (et_or (et_not (et_test (ev_chain ev_c len0 rv_I0 (fun _ => ev_c) fun _ => rv_I0))) fun hf => ?_) (fun hb H1 e1 => ?_) (fun hb H1 e1 => ?_)
  · match x, hf with
    | c :: r, _ => exact et_test (ev_op (ev_op v0 ev_c (rv_ixS (c := c) (by rw [hl]; omega) (atI_nat (xs := c :: r) (j := 0) rfl))) ev_c rv_signN)
  · have e : nameOk x = false := by
      unfold nameOk
      rw [Bool.or_eq_true] at hb
      rcases hb with hb | hb
      · have z : ¬ (1 ≤ x.length ∧ x.length ≤ 8) := fun h => by simp at hb; omega
        by_cases h1 : 1 ≤ x.length
        · have h8 : ¬ x.length ≤ 8 := fun h => z ⟨h1, h⟩
          simp [h8]
        · simp [h1]
      · have z : isLet (x.getD 0 0) = false := by simpa using hb
        rw [z]; simp
    rw [e] at k
    exact s_ret ev_c fun H2 e2 => k H2 (e1.trans e2)
  · have e : nameOk x = (x.map fun c => isLet c || isFig c).all id := by
      rw [Bool.or_eq_false_iff] at hb
      obtain ⟨h1, h2⟩ := hb
      have z1 : (decide (1 ≤ x.length) && decide (x.length ≤ 8)) = true := by simp at h1 ⊢; omega
      have z2 : isLet (x.getD 0 0) = true := by simpa using h2
      unfold nameOk
      rw [z1, z2]
      simp
    rw [e] at k
    refine s_ret (ev_all (bs := x.map fun c => isLet c || isFig c) ?_) fun H2 e2 => k H2 (e1.trans e2)
    have hs : (S x).cps.size = x.length := by simp
    have m : (x.map fun c => isLet c || isFig c).map V.bl = (List.range (S x).cps.size).map fun i => .bl (isLet (x.getD i 0) || isFig (x.getD i 0)) := by
      rw [hs]
      refine List.ext_getElem (by simp) fun i h1 h2 => ?_
      have hi : i < x.length := by simpa using h1
      simp [List.getD_eq_getElem?_getD, hi]
    rw [m]
    refine el_lcS (j := 1) _ v0 (by rw [hs]; omega) (fun y => rfl) fun i c H2 e2 hc => ?_
    have hc' : x.getD i 0 = c := by
      have : x[i]? = some c := by simpa using hc
      simp [List.getD_eq_getElem?_getD, this]
    rw [hc']
    exact ev_orV (ev_op (ev_var rfl) ev_c rv_sign) fun _ => ev_op (ev_var rfl) ev_c rv_sign
end
end K5
set_option Elab.async false
set_option linter.all false
set_option maxRecDepth 100000
set_option maxHeartbeats 4000000
namespace K5
open PySem PySem.Spec PyProof.Rows L2 Evl Xl SX Mi
section
variable {P : Program} {w : World} {K : PySem.W.Frag} {mg : Str → Option Value} {base : Heap} {f : Addr} {fd : FuncData}
def optI : Option Int → V
  | none => .non
  | some n => .int n
def spInt : Sp := fun vs H Q _ => ∃ x : Wd, vs = [.str (S x)] ∧ x.length ≤ 3 ∧ ∀ H', Ex H H' → Q (optI (intOf x)) H'
theorem scI : FnScope ["word", "digits", "sign"] ["word"] (C8.fnScope (top 14)) := C8.fnScope_by (by decide +kernel)
theorem S_eqc {a b : Wd} : (decide (V.str (S a) = V.str (S b))) = decide (a = b) := by
  by_cases h : a = b
  · subst h; simp
  · rw [decide_eq_false h]
    exact decide_eq_false fun z => h (S_inj (V.str.inj z))
theorem all_sign {x : Wd} {tl : TE} {σ : L2.St} {H : Hp} {te : TE} {j : Nat} {vs : List Nat} {K : PySem.W.Frag} (f : Nat → Bool) (hx : x.length ≤ 40000) (h : Ev tl σ H (.str (S x))) (hw : ∀ y, wipe ((wipe σ vs).set j (some y)) vs = wipe σ vs)
    (he : ∀ c H1, c ∈ x → Ev te ((wipe σ vs).set j (some (.str ⟨#[c]⟩))) H1 (.bl (f c))) : Ev (tCB (rAll K) (tCons (tLc (iStr tl) (gName j) tYes te vs) tNil)) σ H (.bl (x.all f)) := by
  have hs : (S x).cps.size = x.length := by simp
  have e : x.all f = (x.map f).all id := by simp
  rw [e]
  refine ev_all ?_
  have m : (x.map f).map V.bl = (List.range (S x).cps.size).map fun i => .bl (f (x.getD i 0)) := by
    rw [hs]
    refine List.ext_getElem (by simp) fun i h1 h2 => ?_
    have hi : i < x.length := by simpa using h1
    simp [List.getD_eq_getElem?_getD, hi]
  rw [m]
  refine el_lcS (j := j) _ h (by rw [hs]; omega) hw fun i c H2 e2 hc => ?_
  have hc1 : x[i]? = some c := by simpa using hc
  have hc' : x.getD i 0 = c := by simp [List.getD_eq_getElem?_getD, hc1]
  rw [hc']
  exact he c H2 (List.mem_of_getElem? hc1)
theorem ok_integer_of (F : C8.Def K mg "integer_of" (top 14) f fd) (b : Binds K fd ["word"] []) (T : Txt K w mg) : C8.Cal P w K mg base 1 "integer_of" spInt [] := by
  refine C8.cal0 F b .nil scI (fun vs H Q E h => by obtain ⟨x, rfl, _⟩ := h; rfl) (fun cdv A outer s H vs Q E hr h => ?_)
  obtain ⟨x, rfl, hx, k⟩ := h
  refine ⟨_, pss_cons (ps_set (i := 1) scI.nd rfl (Or.inl rfl) (pe_bm PySem.F.plainAttrs_str PySem.F.slot_str_removeprefix PySem.F.type_str_removeprefix mt_removeprefix (pv 0) (pa_cons pe_str pa_nil)))
    (pss_cons (ps_if (pw_or (pt_cmpR op_eq (pv 1) pe_str (nomark _))
        (pw_or1 (pt_not (pt_val (pe_callB (cr_all rfl) (by rfl) T.all_ boot_all (pa_cons (pe_lc (own := [("sign", 2)]) (g := gName 2) (tt := tYes) rfl scI.nd (pi_str (pv 1)) (blkOk_by (N := ["word", "digits", "sign"]) (sc := C8.fnScope (top 14)) (by decide +kernel))
          (fun _ _ _ _ _ => pg_name (i := 2) scI.nd rfl (Or.inl rfl)) (fun _ _ _ _ _ => pts_nil) (fun _ _ _ _ _ => pe_cmpR op_in_sign (pv 2) (C8.pe_gc (by rfl) T.fig_) rfl)) pa_nil)))))).pt (pss_one (ps_ret pe_non)) pss_nil)
    (pss_cons (ps_if (pw_and (pt_cmpR op_eq (pe_ix ix_str (pv 1) pe_int (fun _ _ => rfl)) pe_str (nomark _)) (pw_and1 (pt_cmpR op_ne (pv 0) pe_str (nomark _)))).pt (pss_one (ps_ret pe_non)) pss_nil)
    (pss_one (ps_ret (pe_callTy call_int_str (by rfl) T.int_ (by decide +kernel) (pa_cons (pv 0) pa_nil)))))), ?_⟩
  refine ⟨_, rfl, rfl, S x, S [45], rfl, rfl, by rw [S_len, sizeLine_eq]; omega, ?_⟩
  rw [prefix_S]
  have dl : (digs x).length ≤ 3 := by
    unfold digs
    split
    · simp at hx; omega
    · exact hx
  have v0 : ∀ {H1 : Hp}, Ev (tVar 0) ((start ["word", "digits", "sign"] [V.str (S x)]).set 1 (some (.str (S (digs x))))) H1 (.str (S x)) := ev_var rfl
  have v1 : ∀ {H1 : Hp}, Ev (tVar 1) ((start ["word", "digits", "sign"] [V.str (S x)]).set 1 (some (.str (S (digs x))))) H1 (.str (S (digs x))) := ev_var rfl
  have l0 : (Str.ofString "" : Str) = S [] := by decide
  have l1 : (Str.ofString "0" : Str) = S [48] := by decide
  refine q_when (b := decide (digs x = []) || !(digs x).all isFig) (et_or (et_is (et_test (ev_op v1 ev_c (rv_eq rfl))) (by rw [l0]; exact S_eqc)) fun _ => et_not (et_B (all_sign isFig (by omega) v1 (fun y => rfl) fun c H1 hc => ev_op (ev_var rfl) ev_c rv_sign))) (fun hb H1 e1 => ?_) (fun hb H1 e1 => ?_)
  · have e : intOf x = none := by
      unfold intOf
      rw [if_pos]
      simpa using hb
    rw [e] at k
    exact s_ret ev_c fun H2 e2 => k H2 (e1.trans e2)
  · have e0 : ¬ (digs x = [] ∨ (digs x).all isFig = false) := by simpa using hb
    obtain ⟨c, r, hcr⟩ : ∃ c r, digs x = c :: r := by
      cases h : digs x with
      | nil => exact absurd (.inl h) e0
      | cons c r => exact ⟨c, r, rfl⟩
    have g0 : (digs x).getD 0 0 = c := by rw [hcr]; rfl
    have dlen : (S (digs x)).length ≤ 100000 := by rw [S_len]; omega
    refine q_when (b := decide (c = 48) && !decide (x = [48])) (et_and (et_is (et_test (ev_op (x := .str ⟨#[c]⟩) (ev_op v1 ev_c (rv_ixS dlen (by rw [hcr]; exact atI_nat (xs := c :: r) (j := 0) rfl))) ev_c (rv_eq rfl))) (by rw [l1]; exact (S_eqc (a := [c]) (b := [48])).trans (by simp))) fun _ => et_is (et_test (ev_op v0 ev_c (rv_ne rfl))) (by rw [l1, S_eqc])) (fun hb2 H2 e2 => ?_) (fun hb2 H2 e2 => ?_)
    · have e : intOf x = none := by
        unfold intOf
        rw [if_neg e0, if_pos]
        rw [g0]
        simpa using hb2
      rw [e] at k
      exact s_ret ev_c fun H3 e3 => k H3 ((e1.trans e2).trans e3)
    · obtain ⟨n, e⟩ : ∃ n, intOf x = some n := by
        unfold intOf
        rw [if_neg e0, if_neg]
        · exact ⟨_, rfl⟩
        · rw [g0]
          simpa using hb2
      rw [e] at k
      exact s_ret (ev_cb (ea_cons v0 ea_nil) fun H3 e3 Q' q => ⟨S x, n, rfl, int_text hx e, by rw [S_len]; omega, q H3 (Ex.refl H3)⟩) fun H3 e3 => k H3 ((e1.trans e2).trans e3)
def ariV (z : Str) : Option V := match ari z.cps.toList with
  | none => none
  | some n => some (.int (Int.ofNat n))
structure Txt2 (K : PySem.W.Frag) (w : World) (mg : Str → Option Value) : Prop extends Txt K w mg where
  ari_ : ∃ p, mg "ARITIES" = some (.ref p) ∧ Xk.KHas K w p ariV
  lwords : ∃ p, mg "LINE_WORDS" = some (.ref p) ∧ ∀ H, SqT K H p [.str (S [112, 97, 114, 116]), .str (S [114, 117, 110])]
  binders : ∃ p, mg "BINDERS" = some (.ref p) ∧ ∀ H, SqT K H p [.str (S [102, 117, 110]), .str (S [108, 101, 116])]
  deep : ∃ t, mg "DEEPEST" = some (.int 30 t)
  mostW : ∃ t, mg "MOST_WORDS" = some (.int 120 t)
  mostP : ∃ t, mg "MOST_PARTS" = some (.int 12 t)
  bwords : ∃ p, mg "BINDING_WORDS" = some (.ref p) ∧ ∀ H, SqT K H p [.str (S [99, 97, 108, 108]), .str (S [108, 101, 116]), .str (S [112, 97, 105, 114])]
def spFree : Sp := fun vs H Q _ => ∃ x : Wd, vs = [.str (S x)] ∧ x.length ≤ 9000 ∧ ∀ H', Ex H H' → Q (.bl (okFree x)) H'
theorem scF : FnScope ["word"] ["word"] (C8.fnScope (top 21)) := C8.fnScope_by (by decide +kernel)
theorem ok_is_free (F : C8.Def K mg "is_free" (top 21) f fd) (b : Binds K fd ["word"] []) (T : Txt2 K w mg) (cN : C8.Cal P w K mg base 1 "is_name" spName []) : C8.Cal P w K mg base 2 "is_free" spFree [] := by
  refine C8.cal0 F b .nil scF (fun vs H Q E h => by obtain ⟨x, rfl, _⟩ := h; rfl) (fun cdv A outer s H vs Q E hr h => ?_)
  obtain ⟨x, rfl, hx, k⟩ := h
  obtain ⟨pa, ma, ha⟩ := T.ari_
  obtain ⟨pl, ml, hl⟩ := T.lwords
  refine ⟨_, pss_one (ps_ret (pe_and (C8.pe_c cN hr (Nat.le_refl _) (by rfl) (pa_cons (pv 0) pa_nil)) (pe_and (pe_cmpR Xk.op_notInK (pv 0) (pe_glob (v := .ref pa) (by rfl) ma rfl) rfl) (pe_one (pe_cmpR op_notIn_seq (pv 0) (pe_glob (v := .ref pl) (by rfl) ml rfl) rfl))))), ?_⟩
  have v0 : ∀ {H1 : Hp}, Ev (tVar 0) (start ["word"] [V.str (S x)]) H1 (.str (S x)) := ev_var rfl
  have e : V.bl (nameOk x && ((!(ariV (S x)).isSome) && (!inV (.str (S x)) [.str (S [112, 97, 114, 116]), .str (S [114, 117, 110])]))) = V.bl (okFree x) := by
    have a1 : (ariV (S x)).isSome = (ari x).isSome := by
      have e : (S x).cps.toList = x := rfl
      unfold ariV
      rw [e]
      cases ari x <;> rfl
    have a2 : inV (.str (S x)) [.str (S [112, 97, 114, 116]), .str (S [114, 117, 110])] = (decide (x = [112, 97, 114, 116]) || decide (x = [114, 117, 110])) := by
      show ((S [112, 97, 114, 116] == S x) || ((S [114, 117, 110] == S x) || false)) = _
      rw [S_beq_eq, S_beq_eq, Bool.or_false, decide_eq_decide.mpr (eq_comm (a := [112, 97, 114, 116]) (b := x)), decide_eq_decide.mpr (eq_comm (a := [114, 117, 110]) (b := x))]
    rw [a1, a2]
    unfold okFree
    cases ari x <;> simp
  refine s_ret (ev_is (ev_andV (ev_call (ea_cons v0 ea_nil) fun H1 e1 Q' q E' => ⟨x, rfl, hx, fun H2 e2 => q H2 e2⟩) fun _ => ev_andV (ev_op v0 ev_c fun H1 e1 Q' q => ⟨S x, pa, ariV, rfl, rfl, ha, q H1 (Ex.refl H1)⟩) fun _ => ev_op v0 ev_c (rv_niT (hl H) rfl rfl)) e) fun H2 e2 => k H2 e2
def spWritten : Sp := fun vs H Q _ => ∃ x : Wd, vs = [.str (S x)] ∧ x.length ≤ 9000 ∧ ∀ H', Ex H H' → Q (.bl (written x)) H'
theorem scW : FnScope ["word", "number"] ["word"] (C8.fnScope (top 24)) := C8.fnScope_by (by decide +kernel)
theorem ev_notN {te : TE} {σ : L2.St} {H : Hp} {x : V} (h : Ev te σ H x) : Ev (tNotN te) σ H (.bl (!decide (x = .non))) := fun H1 e _ q => h H1 e _ fun H2 e2 => q H2 e2
theorem ev_isN {te : TE} {σ : L2.St} {H : Hp} {x : V} (h : Ev te σ H x) : Ev (tIsN te) σ H (.bl (decide (x = .non))) := fun H1 e _ q => h H1 e _ fun H2 e2 => q H2 e2
theorem ok_is_written (F : C8.Def K mg "is_written" (top 24) f fd) (b : Binds K fd ["word"] []) (T : Txt K w mg) (cI : C8.Cal P w K mg base 1 "integer_of" spInt []) : C8.Cal P w K mg base 2 "is_written" spWritten [] := by
  refine C8.cal0 F b .nil scW (fun vs H Q E h => by obtain ⟨x, rfl, _⟩ := h; rfl) (fun cdv A outer s H vs Q E hr h => ?_)
  obtain ⟨x, rfl, hx, k⟩ := h
  refine ⟨_, pss_cons (ps_if (pt_cmpR op_gt (pe_callB call_len_str (by rfl) T.len_ boot_len (pa_cons (pv 0) pa_nil)) pe_int (nomark _)) (pss_one (ps_ret pe_bl)) pss_nil)
    (pss_cons (ps_set (i := 1) scW.nd rfl (Or.inl rfl) (C8.pe_c cI hr (Nat.le_refl _) (by rfl) (pa_cons (pv 0) pa_nil)))
    (pss_one (ps_ret (pe_and (pe_cmp (pc_notN (pv 1))) (pe_one (pe_chain op_le op_le (pe_un un_neg pe_int) (pv 1) pe_int)))))), ?_⟩
  have hl : (S x).length = x.length := S_len x
  have small : (S x).length ≤ sizeLine := by rw [hl, sizeLine_eq]; omega
  have v0 : ∀ {H1 : Hp}, Ev (tVar 0) (start ["word", "number"] [V.str (S x)]) H1 (.str (S x)) := ev_var rfl
  refine q_when (b := decide ((3 : Int) < x.length)) (et_is (et_test (ev_op (ev_lenS v0 small) ev_c rv_I0)) (by rw [hl])) (fun hb H1 e1 => ?_) (fun hb H1 e1 => ?_)
  · have e : written x = false := by
      have z : ¬ x.length ≤ 3 := by have := of_decide_eq_true hb; omega
      unfold written
      rw [decide_eq_false z]
      rfl
    rw [e] at k
    exact s_ret ev_c fun H2 e2 => k H2 (e1.trans e2)
  · have h3 : x.length ≤ 3 := by have := of_decide_eq_false hb; omega
    refine q_asg (v := optI (intOf x)) (ev_call (ea_cons v0 ea_nil) fun H2 e2 Q' q E' => ⟨x, rfl, h3, fun H3 e3 => q H3 e3⟩) fun H2 e2 => ?_
    have v1 : ∀ {H1 : Hp}, Ev (tVar 1) ((start ["word", "number"] [V.str (S x)]).set 1 (some (optI (intOf x)))) H1 (optI (intOf x)) := ev_var rfl
    have e : written x = match intOf x with
        | none => false
        | some n => decide (-99 ≤ n) && decide (n ≤ 99) := by
      unfold written
      rw [decide_eq_true h3]
      rfl
    cases hi : intOf x with
    | none =>
      rw [hi] at e v1
      rw [e] at k
      exact s_ret (ev_is (ev_andV (b := false) (ev_notN v1) fun z => by cases z) rfl) fun H3 e3 => k H3 ((e1.trans e2).trans e3)
    | some n =>
      rw [hi] at e v1
      rw [e] at k
      exact s_ret (ev_is (ev_andV (b := decide (-99 ≤ n) && decide (n ≤ 99)) (ev_notN v1) fun _ => ev_chain (ev_un ev_c ru_neg) v1 rv_I0 (fun _ => ev_c) fun _ => rv_I0) rfl) fun H3 e3 => k H3 ((e1.trans e2).trans e3)
end
end K5
set_option Elab.async false
set_option linter.all false
set_option maxRecDepth 100000
set_option maxHeartbeats 4000000
namespace K5
open PySem PySem.Spec PyProof.Rows L2 Evl Xl SX Mi
section
variable {P : Program} {w : World} {K : PySem.W.Frag} {mg : Str → Option Value} {base : Heap} {f : Addr} {fd : FuncData}
def nfL (t : Addr) (sign kind named : Str) (outer : V) (wi : Addr) (binder : V) (level : Int) : List (Str × V) :=
  [("place", .ref t), ("sign", .str sign), ("kind", .str kind), ("named", .str named), ("outer", outer), ("within", .ref wi), ("binder", binder), ("level", .int level)]
structure NodeC (K : PySem.W.Frag) (mg : Str → Option Value) (C : Addr) : Prop where
  cl : Cls K C
  mgC : mg "Node" = some (.ref C)
  n1 : NoAttr K C "place"
  n2 : NoAttr K C "sign"
  n3 : NoAttr K C "kind"
  n4 : NoAttr K C "named"
  n5 : NoAttr K C "outer"
  n6 : NoAttr K C "within"
  n7 : NoAttr K C "binder"
  n8 : NoAttr K C "level"
  eq : Xq.EqC K C
theorem upd_over {H : Hp} {a b : Addr} {o1 o2 u : HO} (h : a ≠ b) : upd (upd (upd H a o1) b u) a o2 = upd (upd H b u) a o2 := by
  funext c
  unfold upd
  by_cases h1 : c = a
  · simp [h1]
  · simp [h1]
/-- who stands around it, and how deep it stands then -/
def OutV (C : Addr) (H : Hp) (ov : V) (lv : Int) : Prop := (ov = .non ∧ lv = 1) ∨ ∃ (oa dx : Addr) (fs : List (Str × V)) (l : Int), ov = .ref oa ∧ H oa = some (.ins C dx fs) ∧ fs.lookup ("level" : Str) = some (.int l) ∧ lv = l + 1
def spNode (C : Addr) : Sp := fun vs H Q _ => ∃ (p dx t : Addr) (sg : Str) (ov : V) (lv : Int), vs = [.ref p, .ref t, .str sg, ov] ∧ H p = some (.ins C dx []) ∧ OutV C H ov lv ∧ (∀ oa, ov = .ref oa → oa ≠ p) ∧
  ∀ wi, H wi = none → Q .non (upd (upd H wi (.lst [])) p (.ins C dx (nfL t sg sg (Str.ofString "") ov wi .non lv)))
abbrev sNode : Stmt := inClass (top 20) 0
theorem scNode : FnScope ["self", "place", "sign", "outer"] ["self", "place", "sign", "outer"] (C8.fnScope sNode) := C8.fnScope_by (by decide +kernel)
theorem ok_node {C : Addr} (F : C8.Fun K "__init__" "Node.__init__" sNode f fd) (T : NodeC K mg C) (M : Mk K C f) (b : Binds K fd ["self", "place", "sign", "outer"] []) : C8.Mak P w K mg base 1 "Node" C (spNode C) [] := by
  refine C8.mak0 M T.mgC F b .nil scNode (fun vs H Q E h => by obtain ⟨p, dx, t, sg, ov, lv, rfl, _⟩ := h; rfl) (fun cdv A outer s H vs Q E hr h => ?_)
  obtain ⟨p, dx, t, sg, ov, lv, rfl, hp, ho, hne, k⟩ := h
  refine ⟨_, pss_cons (ps_fld (pv 0) (pv 1) rfl) (pss_cons (ps_fld (pv 0) (pv 2) rfl) (pss_cons (ps_fld (pv 0) (pv 2) rfl) (pss_cons (ps_fld (pv 0) pe_str rfl) (pss_cons (ps_fld (pv 0) (pv 3) rfl)
    (pss_cons (ps_fld (pv 0) (pe_lst pa_nil) rfl) (pss_cons (ps_fld (pv 0) pe_non rfl) (pss_one (ps_fld (pv 0) (pe_ifExp (pt_cmp (pc_isN (pv 3))) pe_int (pe_op op_add (pe_fld (pv 3) rfl) pe_int)) rfl)))))))), ?_⟩
  refine ⟨_, rfl, _, rfl, p, C, dx, [], rfl, hp, T.cl, T.n1, (by show 0 < 1000; decide), ?_⟩
  refine ⟨_, rfl, _, rfl, p, C, dx, _, rfl, upd_same, T.cl, T.n2, (by show 1 < 1000; decide), ?_⟩
  refine ⟨_, rfl, _, rfl, p, C, dx, _, rfl, upd_same, T.cl, T.n3, (by show 2 < 1000; decide), ?_⟩
  refine ⟨_, rfl, p, C, dx, _, rfl, upd_same, T.cl, T.n4, (by show 3 < 1000; decide), ?_⟩
  refine ⟨_, rfl, _, rfl, p, C, dx, _, rfl, upd_same, T.cl, T.n5, (by show 4 < 1000; decide), ?_⟩
  refine ⟨(by show 0 ≤ sizeLine; decide), fun wi hwi => ?_⟩
  have hp2 : p ≠ wi := fun z => by rw [z, upd_same] at hwi; cases hwi
  refine ⟨_, rfl, p, C, dx, _, rfl, (upd_ne hp2).trans upd_same, T.cl, T.n6, (by show 5 < 1000; decide), ?_⟩
  refine ⟨_, rfl, p, C, dx, _, rfl, upd_same, T.cl, T.n7, (by show 6 < 1000; decide), ?_⟩
  have hw' : H wi = none := (upd_ne hp2.symm).symm.trans ((upd_ne hp2.symm).symm.trans ((upd_ne hp2.symm).symm.trans ((upd_ne hp2.symm).symm.trans ((upd_ne hp2.symm).symm.trans hwi))))
  have fin : ∀ (G : Hp), G = upd (upd (upd (upd (upd (upd (upd (upd (upd H p (.ins C dx [("place", .ref t)])) p (.ins C dx [("place", .ref t), ("sign", .str sg)])) p (.ins C dx [("place", .ref t), ("sign", .str sg), ("kind", .str sg)])) p (.ins C dx [("place", .ref t), ("sign", .str sg), ("kind", .str sg), ("named", .str (Str.ofString ""))])) p (.ins C dx [("place", .ref t), ("sign", .str sg), ("kind", .str sg), ("named", .str (Str.ofString "")), ("outer", ov)])) wi (.lst [])) p (.ins C dx [("place", .ref t), ("sign", .str sg), ("kind", .str sg), ("named", .str (Str.ofString "")), ("outer", ov), ("within", .ref wi)])) p (.ins C dx [("place", .ref t), ("sign", .str sg), ("kind", .str sg), ("named", .str (Str.ofString "")), ("outer", ov), ("within", .ref wi), ("binder", .non)])) p (.ins C dx (nfL t sg sg (Str.ofString "") ov wi .non lv)) → Q .non G := by
    intro G hG
    have e : G = upd (upd H wi (.lst [])) p (.ins C dx (nfL t sg sg (Str.ofString "") ov wi .non lv)) := by
      rw [hG]
      funext c
      unfold upd
      by_cases h1 : c = p
      · simp [h1]
      · simp [h1]
    rw [e]
    exact k wi hw'
  rcases ho with ⟨rfl, rfl⟩ | ⟨oa, dx2, fs, l, rfl, h1, h2, rfl⟩
  · exact ⟨_, rfl, true, rfl, ⟨_, rfl, p, C, dx, _, rfl, upd_same, T.cl, T.n8, (by show 7 < 1000; decide), fin _ rfl⟩⟩
  · have ne := hne oa rfl
    have nw : oa ≠ wi := fun z => by
      rw [z, hw'] at h1
      cases h1
    refine ⟨_, rfl, false, rfl, ⟨_, rfl, oa, C, dx2, fs, _, rfl, ?_, T.cl, T.n8, h2, ⟨l, 1, rfl, rfl, _, rfl, p, C, dx, _, rfl, upd_same, T.cl, T.n8, (by show 7 < 1000; decide), fin _ rfl⟩⟩⟩
    unfold upd
    simp [ne, nw, h1]
end
end K5
set_option Elab.async false
set_option linter.all false
set_option maxRecDepth 100000
set_option maxHeartbeats 4000000
namespace K5
open PySem PySem.Spec PyProof.Rows L2 Evl Xl SX Mi
theorem ex_put {H H2 : Hp} {p : Addr} {o : HO} (h : H p = none) (e : Ex H H2) : Ex H (upd H2 p o) := by
  intro c u hu
  have ne : c ≠ p := fun z => by rw [z, h] at hu; cases hu
  rw [upd_ne ne]
  exact e c u hu
theorem ev_fld {K : PySem.W.Frag} {ta : TE} {σ : L2.St} {H : Hp} {f : Str} {a C dx : Addr} {fs : List (Str × V)} {v : V} (h : Ev ta σ H (.ref a)) (ha : H a = some (.ins C dx fs)) (hc : Cls K C) (hn : NoAttr K C f) (hv : fs.lookup f = some v) : Ev (tFld K ta f) σ H v :=
  fun H1 e Q q => h H1 e _ fun H2 e2 => ⟨a, C, dx, fs, v, rfl, e2 _ _ (e _ _ ha), hc, hn, hv, q H2 e2⟩
theorem q_fld {K : PySem.W.Frag} {ta te : TE} {σ : L2.St} {H : Hp} {f : Str} {a C dx : Addr} {fs : List (Str × V)} {v : V} {D : Ends} {tz : TS} (ha : H a = some (.ins C dx fs)) (h0 : Ev ta σ H (.ref a)) (h : Ev te σ H v) (hc : Cls K C) (hn : NoAttr K C f) (hl : fs.length < 1000)
    (k : ∀ H1, Ex H H1 → tz D σ (upd H1 a (.ins C dx (putF f v fs)))) : tSeq (sFld K ta te f) tz D σ H :=
  h H (Ex.refl H) _ fun H1 e1 => h0 H1 e1 _ fun H2 e2 => ⟨a, C, dx, fs, rfl, e2 _ _ (e1 _ _ ha), hc, hn, hl, k H2 (e1.trans e2)⟩
theorem q_two {K : PySem.W.Frag} {te : TE} {σ : L2.St} {H : Hp} {q : Addr} {x y : V} {i j : Nat} {D : Ends} {tz : TS} (h : Ev te σ H (.ref q)) (hq : H q = some (.tup [x, y])) (k : ∀ H1, Ex H H1 → tz D ((σ.set i (some x)).set j (some y)) H1) :
    tSeq (tAsg te (gTup K 2 (gCons (gName i) (gCons (gName j) gNil)))) tz D σ H :=
  h H (Ex.refl H) _ fun H1 e1 => ⟨q, _, rfl, st_of (e1 _ _ hq), rfl, x, [y], rfl, y, [], rfl, rfl, k H1 e1⟩
section
variable {P : Program} {w : World} {K : PySem.W.Frag} {mg : Str → Option Value} {base : Heap} {f : Addr} {fd : FuncData}
theorem outV_up {C : Addr} {H H1 : Hp} {ov : V} {lv : Int} (h : OutV C H ov lv) (e : Ex H H1) : OutV C H1 ov lv := by
  rcases h with h | ⟨oa, dx, fs, l, h1, h2, h3, h4⟩
  · exact .inl h
  · exact .inr ⟨oa, dx, fs, l, h1, e _ _ h2, h3, h4⟩
theorem q_node {C t : Addr} {E : XK} {ta : TA} {σ : L2.St} {H : Hp} {sg : Str} {ov : V} {lv : Int} {i : Nat} {D : Ends} {tz : TS} (h : EvA ta σ H [.ref t, .str sg, ov]) (ho : OutV C H ov lv)
    (k : ∀ (p dx wi : Addr) (H2 : Hp), Ex H H2 → H p = none → H wi = none → p ≠ wi → H2 p = some (.ins C dx (nfL t sg sg (Str.ofString "") ov wi .non lv)) → H2 wi = some (.lst []) → tz D (σ.set i (some (.ref p))) H2) :
    tSeq (tAsg (tMake C (spNode C) [] E ta) (gName i)) tz D σ H := by
  refine h H (Ex.refl H) _ fun H1 e1 p dx hp hdx hne => ?_
  have ex0 : Ex H1 (upd (upd H1 dx (.own p)) p (.ins C dx [])) := ex_put hp (ex_put hdx (Ex.refl H1))
  refine ⟨p, dx, t, sg, ov, lv, rfl, upd_same, outV_up ho (e1.trans ex0), fun oa e z => ?_, fun wi hwi => ⟨rfl, ?_⟩⟩
  · subst z
    rcases ho with ⟨e', _⟩ | ⟨oa, dx2, fs, l, e', h2, _⟩
    · rw [e] at e'; cases e'
    · rw [e] at e'
      cases e'
      have := e1 _ _ h2
      rw [hp] at this
      cases this
  · have hwi1 : H1 wi = none := by
      cases z : H1 wi with
      | none => rfl
      | some o => rw [ex0 _ _ z] at hwi; cases hwi
    have ne : p ≠ wi := fun z => by rw [← z, upd_same] at hwi; cases hwi
    refine k p dx wi _ (e1.trans (ex_put hp (ex_put hwi1 ex0))) (fresh_back e1 hp) (fresh_back e1 hwi1) ne upd_same ?_
    rw [upd_ne ne.symm, upd_same]
theorem ariV_some {x : Wd} : (ariV (S x)).isSome = (ari x).isSome := by
  have e : (S x).cps.toList = x := rfl
  unfold ariV
  rw [e]
  cases ari x <;> rfl
theorem atI_ws {ws : List Wd} {i : Nat} (h : i < ws.length) : atI (ws.map fun x => V.str (S x)) (i : Int) = some (.str (S (ws.getD i []))) := by
  refine atI_nat (j := i) ?_
  simp [List.getD_eq_getElem?_getD, h]
theorem mem_ws {ws : List Wd} {i : Nat} (h : i < ws.length) : ws.getD i [] ∈ ws := by
  have : ws.getD i [] = ws[i] := by simp [List.getD_eq_getElem?_getD, h]
  rw [this]
  exact List.getElem_mem h
def spRead (C : Addr) : Sp := fun vs H Q _ => ∃ (t wd : Addr) (nm : V) (at_ : Nat) (ws : List Wd) (ov : V) (o : Option Nat) (lv : Nat), vs = [.ref t, .ref wd, ov] ∧ H t = some (.tup [nm, .int at_]) ∧ H wd = some (.lst (ws.map fun x => .str (S x))) ∧
  OutV C H ov lv ∧ at_ < ws.length ∧ ws.length ≤ 200 ∧ (∀ x ∈ ws, x.length ≤ 9000) ∧
  (readNd ws at_ o lv = none → ∀ H', Ex H H' → Q .non H') ∧
  ∀ nd, readNd ws at_ o lv = some nd → ∀ (p dx wi : Addr) (H' : Hp), Ex H H' → H p = none → H wi = none → H' p = some (.ins C dx (nfL t (S nd.sign) (S nd.kind) (S nd.named) ov wi .non nd.level)) → H' wi = some (.lst []) → Q (.ref p) H'
theorem scR : FnScope ["place", "words", "outer", "_", "at", "node"] ["place", "words", "outer"] (C8.fnScope (top 23)) := C8.fnScope_by (by decide +kernel)
theorem ok_read {C : Addr} (F : C8.Def K mg "read_node" (top 23) f fd) (b : Binds K fd ["place", "words", "outer"] []) (T : Txt2 K w mg) (N : NodeC K mg C) (cM : C8.Mak P w K mg base 1 "Node" C (spNode C) [])
    (cF : C8.Cal P w K mg base 2 "is_free" spFree []) (cW : C8.Cal P w K mg base 2 "is_written" spWritten []) : C8.Cal P w K mg base 3 "read_node" (spRead C) [] := by
  obtain ⟨pa, ma, ha⟩ := T.ari_
  obtain ⟨pb, mb, hb⟩ := T.binders
  obtain ⟨td, md⟩ := T.deep
  refine C8.cal0 F b .nil scR (fun vs H Q E h => by obtain ⟨t, wd, nm, at_, ws, ov, o, lv, rfl, _⟩ := h; rfl) (fun cdv A outer s H vs Q E hr h => ?_)
  obtain ⟨t, wd, nm, at_, ws, ov, o, lv, rfl, ht, hwd, ho, hat, hlen, hxs, k0, k1⟩ := h
  refine ⟨_, pss_cons (ps_asg (pv 0) (pg_tup (by rfl) (pgs_cons (pg_name (i := 3) scR.nd rfl (.inl rfl)) (pgs_cons (pg_name (i := 4) scR.nd rfl (.inl rfl)) pgs_nil))))
    (pss_cons (ps_set (i := 5) scR.nd rfl (Or.inl rfl) (C8.pe_mk cM hr (by decide) (by rfl) (pa_cons (pv 0) (pa_cons (pe_ix ix_list (pv 1) (pv 4) (fun _ _ => rfl)) (pa_cons (pv 2) pa_nil)))))
    (pss_cons (ps_if (pt_cmpR op_gt (pe_fld (pv 5) rfl) (pe_glob (v := .int 30) (by rfl) md ⟨td, rfl⟩) (nomark _)) (pss_one (ps_ret pe_non)) pss_nil)
    (pss_cons (ps_if (pt_cmpR Xk.op_inK (pe_fld (pv 5) rfl) (pe_glob (v := .ref pa) (by rfl) ma rfl) rfl)
      (pss_cons (ps_if (pt_cmpR op_in_seq (pe_fld (pv 5) rfl) (pe_glob (v := .ref pb) (by rfl) mb rfl) rfl)
        (pss_cons (ps_fld (pv 5) (pe_ifExp (pt_cmpR op_lt (pe_op op_add (pv 4) pe_int) (pe_callB call_len_seq (by rfl) T.len_ boot_len (pa_cons (pv 1) pa_nil)) (nomark _)) (pe_ix ix_list (pv 1) (pe_op op_add (pv 4) pe_int) (fun _ _ => rfl)) pe_str) rfl)
          (pss_one (ps_ret (pe_ifExp (pt_val (C8.pe_c cF hr (by decide) (by rfl) (pa_cons (pe_fld (pv 5) rfl) pa_nil))) (pv 5) pe_non)))) pss_nil)
      (pss_one (ps_ret (pv 5)))) pss_nil)
    (pss_cons (ps_if (pt_val (C8.pe_c cF hr (by decide) (by rfl) (pa_cons (pe_fld (pv 5) rfl) pa_nil))) (pss_cons (ps_fld (pv 5) pe_str rfl) (pss_one (ps_ret (pv 5)))) pss_nil)
    (pss_cons (ps_fld (pv 5) pe_str rfl)
    (pss_one (ps_ret (pe_ifExp (pt_val (C8.pe_c cW hr (by decide) (by rfl) (pa_cons (pe_fld (pv 5) rfl) pa_nil))) (pv 5) pe_non)))))))), ?_⟩
  refine q_two (q := t) (ev_var rfl) ht fun H1 e1 => ?_
  have l0 : (Str.ofString "" : Str) = S [] := by decide
  refine q_node (t := t) (ov := ov) (sg := S (ws.getD at_ [])) (lv := lv) ?_ (outV_up ho e1) fun p dx wi H2 e20 hp0 hw0 hne hp2 hw2 => ?_
  · exact ea_cons (ev_var rfl) (ea_cons (ev_op (ev_var rfl) (ev_var rfl) (rv_ixL (sq_of (e1 _ _ hwd)) (atI_ws hat))) (ea_cons (ev_var rfl) ea_nil))
  have e2 := e1.trans e20
  have hp := fresh_back e1 hp0
  have hw := fresh_back e1 hw0
  have hx := hxs _ (mem_ws hat)
  generalize hsg : ws.getD at_ [] = sg at *
  have hx1 : ∀ i, i < ws.length → (ws.getD i []).length ≤ 9000 := fun i h => hxs _ (mem_ws h)
  have v5 : ∀ {H1 : Hp} {σ : L2.St}, σ = ([some (V.ref t), some (.ref wd), some ov, some nm, some (.int at_), some (.ref p)] : L2.St) → Ev (tVar 5) σ H1 (.ref p) := fun e => ev_var (by rw [e]; rfl)
  refine q_when (b := decide (30 < lv)) (et_is (et_test (ev_op (ev_fld (v5 rfl) hp2 N.cl N.n8 rfl) ev_c rv_I0)) (by simp; norm_cast)) (fun hz H3 e3 => ?_) (fun hz H3 e3 => ?_)
  · refine s_ret ev_c fun H4 e4 => k0 ?_ _ ((e2.trans e3).trans e4)
    unfold readNd
    simp [of_decide_eq_true hz]
  have hb30 : ¬ 30 < lv := of_decide_eq_false hz
  refine q_when (b := (ari sg).isSome) (et_is (et_test (ev_op (ev_fld (v5 rfl) (e3 _ _ hp2) N.cl N.n2 rfl) ev_c fun H1 e1 Q' q => ⟨S sg, pa, ariV, rfl, rfl, ha, q H1 (Ex.refl H1)⟩)) (by show (ariV (S sg)).isSome = _; exact ariV_some)) (fun hb1 H4 e4 => ?_) (fun hb1 H4 e4 => ?_)
  · refine q_when (b := isBind sg) (et_is (et_test (ev_op (ev_fld (v5 rfl) (e4 _ _ (e3 _ _ hp2)) N.cl N.n2 rfl) ev_c (rv_inT (hb H4) rfl rfl))) ?_) (fun hb2 H5 e5 => ?_) (fun hb2 H5 e5 => ?_)
    · show inV (.str (S sg)) [.str (S [102, 117, 110]), .str (S [108, 101, 116])] = _
      show ((S [102, 117, 110] == S sg) || ((S [108, 101, 116] == S sg) || false)) = _
      rw [S_beq_eq, S_beq_eq, Bool.or_false, decide_eq_decide.mpr (eq_comm (a := [102, 117, 110]) (b := sg)), decide_eq_decide.mpr (eq_comm (a := [108, 101, 116]) (b := sg))]
      rfl
    · have hp5 := e5 _ _ (e4 _ _ (e3 _ _ hp2))
      have hw5 := e5 _ _ (e4 _ _ (e3 _ _ hw2))
      have eH5 := ((e2.trans e3).trans e4).trans e5
      generalize hnm : (if at_ + 1 < ws.length then ws.getD (at_ + 1) [] else []) = nmw
      have hnl : nmw.length ≤ 9000 := by
        rw [← hnm]
        split
        · exact hx1 _ (by assumption)
        · simp
      have rd : readNd ws at_ o lv = if okFree nmw then some { mkNd at_ sg o lv with named := nmw } else none := by
        unfold readNd
        simp only [hsg, hb1, hb2, if_neg hb30, if_true, hnm]
      refine q_fld hp5 (v5 rfl) (v := .str (S nmw)) ?_ N.cl N.n4 (by show 8 < 1000; decide) fun H6 e6 => ?_
      · have tt : Ev (tOp (rI0 fun i j => V.int (i + j)) (tVar 4) (tC (V.int 1))) ([some (V.ref t), some (.ref wd), some ov, some nm, some (.int at_), some (.ref p)] : L2.St) H5 (.int ((at_ + 1 : Nat) : Int)) := ev_is (ev_op (ev_var rfl) ev_c rv_I0) (by push_cast; rfl)
        refine ev_if (b := decide (at_ + 1 < ws.length)) (et_is (et_test (ev_op tt (ev_len (ev_var rfl) (sq_of (eH5 _ _ hwd))) rv_I0)) (by simp; norm_cast)) (fun h1 => ?_) (fun h1 => ?_)
        · rw [if_pos (of_decide_eq_true h1)] at hnm
          rw [← hnm]
          exact ev_op (ev_var rfl) tt (rv_ixL (sq_of (eH5 _ _ hwd)) (atI_ws (of_decide_eq_true h1)))
        · rw [if_neg (of_decide_eq_false h1)] at hnm
          rw [← hnm, ← l0]
          exact ev_c
      · have eF : Ex H (upd H6 p (.ins C dx (nfL t (S sg) (S sg) (S nmw) ov wi .non lv))) := ex_put hp (eH5.trans e6)
        have fr : Ev (tCall spFree [] C8.E0 (tCons (tFld K (tVar 5) "named") tNil)) ([some (V.ref t), some (.ref wd), some ov, some nm, some (.int at_), some (.ref p)] : L2.St) (upd H6 p (.ins C dx (nfL t (S sg) (S sg) (S nmw) ov wi .non lv))) (.bl (okFree nmw)) :=
          ev_call (ea_cons (ev_fld (v5 rfl) upd_same N.cl N.n4 rfl) ea_nil) fun H1 e1 Q' q E' => ⟨nmw, rfl, hnl, q⟩
        cases hok : okFree nmw with
        | true =>
          rw [hok] at fr rd
          refine s_ret (ev_if (b := true) (et_B fr) (fun _ => v5 rfl) fun z => by cases z) fun H7 e7 => k1 _ rd p dx wi H7 (eF.trans e7) hp hw (e7 _ _ upd_same) (e7 _ _ ((upd_ne hne.symm).trans (e6 _ _ hw5)))
        | false =>
          rw [hok] at fr rd
          exact s_ret (ev_if (b := false) (et_B fr) (fun z => by cases z) fun _ => ev_c) fun H7 e7 => k0 rd _ (eF.trans e7)
    · refine s_ret (v5 rfl) fun H6 e6 => k1 (mkNd at_ sg o lv) ?_ p dx wi H6 ((((e2.trans e3).trans e4).trans e5).trans e6) hp hw (e6 _ _ (e5 _ _ (e4 _ _ (e3 _ _ hp2)))) (e6 _ _ (e5 _ _ (e4 _ _ (e3 _ _ hw2))))
      unfold readNd
      simp only [hsg, hb1, hb2, if_neg hb30, if_true, Bool.false_eq_true, if_false]
  · have hp4 := e4 _ _ (e3 _ _ hp2)
    have hw4 := e4 _ _ (e3 _ _ hw2)
    have eH4 := (e2.trans e3).trans e4
    refine q_when (b := okFree sg) (et_B (ev_call (ea_cons (ev_fld (v5 rfl) hp4 N.cl N.n2 rfl) ea_nil) fun H1 e1 Q' q E' => ⟨sg, rfl, hx, q⟩)) (fun hb2 H5 e5 => ?_) (fun hb2 H5 e5 => ?_)
    · refine q_fld (e5 _ _ hp4) (v5 rfl) ev_c N.cl N.n3 (by show 8 < 1000; decide) fun H6 e6 => ?_
      have eF : Ex H (upd H6 p (.ins C dx (nfL t (S sg) (S [110, 97, 109, 101]) (S []) ov wi .non lv))) := ex_put hp ((eH4.trans e5).trans e6)
      refine s_ret (v5 rfl) fun H7 e7 => k1 { mkNd at_ sg o lv with kind := [110, 97, 109, 101] } ?_ p dx wi H7 (eF.trans e7) hp hw (e7 _ _ (by rw [show S [110, 97, 109, 101] = ("name" : Str) by decide]; exact upd_same)) (e7 _ _ ((upd_ne hne.symm).trans (e6 _ _ (e5 _ _ hw4))))
      unfold readNd
      simp only [hsg, hb1, hb2, if_neg hb30, if_true, Bool.false_eq_true, if_false]
    · refine q_fld (e5 _ _ hp4) (v5 rfl) ev_c N.cl N.n3 (by show 8 < 1000; decide) fun H6 e6 => ?_
      have eF : Ex H (upd H6 p (.ins C dx (nfL t (S sg) (Str.ofString "number") (S []) ov wi .non lv))) := ex_put hp ((eH4.trans e5).trans e6)
      have fr : Ev (tCall spWritten [] C8.E0 (tCons (tFld K (tVar 5) "sign") tNil)) ([some (V.ref t), some (.ref wd), some ov, some nm, some (.int at_), some (.ref p)] : L2.St) (upd H6 p (.ins C dx (nfL t (S sg) (Str.ofString "number") (S []) ov wi .non lv))) (.bl (written sg)) :=
        ev_call (ea_cons (ev_fld (v5 rfl) upd_same N.cl N.n2 rfl) ea_nil) fun H1 e1 Q' q E' => ⟨sg, rfl, hx, q⟩
      have rd : readNd ws at_ o lv = if written sg then some { mkNd at_ sg o lv with kind := [110, 117, 109, 98, 101, 114] } else none := by
        unfold readNd
        simp only [hsg, hb1, hb2, if_neg hb30, Bool.false_eq_true, if_false]
      cases hok : written sg with
      | true =>
        rw [hok] at fr rd
        exact s_ret (ev_if (b := true) (et_B fr) (fun _ => v5 rfl) fun z => by cases z) fun H7 e7 => k1 _ rd p dx wi H7 (eF.trans e7) hp hw (e7 _ _ (by show _ = some (HO.ins C dx (nfL t (S sg) (S [110, 117, 109, 98, 101, 114]) (S []) ov wi .non lv)); rw [show S [110, 117, 109, 98, 101, 114] = ("number" : Str) by decide]; exact upd_same)) (e7 _ _ ((upd_ne hne.symm).trans (e6 _ _ (e5 _ _ hw4))))
      | false =>
        rw [hok] at fr rd
        exact s_ret (ev_if (b := false) (et_B fr) (fun z => by cases z) fun _ => ev_c) fun H7 e7 => k0 rd _ (eF.trans e7)
end
end K5
set_option Elab.async false
set_option linter.all false
set_option maxRecDepth 100000
set_option maxHeartbeats 4000000
namespace K5
open PySem PySem.Spec PyProof.Rows L2 Evl Xl SX Mi
structure Rec where
  a : Addr
  dx : Addr
  t : Addr
  w : Addr
  deriving Inhabited
def R (rs : List Rec) (i : Nat) : Rec := rs.getD i default
def oref (rs : List Rec) : Option Nat → V
  | none => .non
  | some i => .ref (R rs i).a
def refs (rs : List Rec) (is : List Nat) : List V := is.map fun i => .ref (R rs i).a
structure NodeAt (C : Addr) (nm : V) (rs : List Rec) (H : Hp) (r : Rec) (n : Nd) : Prop where
  ins : H r.a = some (.ins C r.dx (nfL r.t (S n.sign) (S n.kind) (S n.named) (oref rs n.outer) r.w (oref rs n.binder) n.level))
  tup : H r.t = some (.tup [nm, .int n.at_])
  win : H r.w = some (.lst (refs rs n.within))
structure Nds (C : Addr) (nm : V) (rs : List Rec) (ns : List Nd) (H : Hp) : Prop where
  len : rs.length = ns.length
  at_ : ∀ i, i < ns.length → NodeAt C nm rs H (R rs i) (nth ns i)
  ia : ∀ i j, i < ns.length → j < ns.length → (R rs i).a = (R rs j).a → i = j
  iw : ∀ i j, i < ns.length → j < ns.length → (R rs i).w = (R rs j).w → i = j
theorem nth_set {ns : List Nd} {i j : Nat} {x : Nd} (h : j < ns.length) : nth (ns.set i x) j = if i = j then x else nth ns j := by
  unfold nth
  by_cases e : i = j
  · subst e; simp [List.getD_eq_getElem?_getD, h]
  · simp [List.getD_eq_getElem?_getD, e]
def Keep (T : Addr → Prop) (H H' : Hp) : Prop := ∀ c o, ¬ T c → H c = some o → H' c = some o
theorem Keep.refl (T : Addr → Prop) (H : Hp) : Keep T H H := fun _ _ _ h => h
theorem Keep.ex {T : Addr → Prop} {H H1 H2 : Hp} (h : Keep T H H1) (e : Ex H1 H2) : Keep T H H2 := fun c o n hc => e _ _ (h c o n hc)
theorem Keep.of {T : Addr → Prop} {H H1 : Hp} (e : Ex H H1) : Keep T H H1 := fun c o n hc => e _ _ hc
theorem Keep.put {T : Addr → Prop} {H H1 : Hp} {p : Addr} {o : HO} (h : Keep T H H1) (t : T p) : Keep T H (upd H1 p o) := fun c u n hc => by
  have ne : c ≠ p := fun z => n (z ▸ t)
  rw [upd_ne ne]
  exact h c u n hc
theorem Keep.trans {T : Addr → Prop} {H H1 H2 : Hp} (h : Keep T H H1) (h2 : Keep T H1 H2) : Keep T H H2 := fun c u n hc => h2 c u n (h c u n hc)
theorem Nds.ex {C : Addr} {nm : V} {rs : List Rec} {ns : List Nd} {H H' : Hp} (h : Nds C nm rs ns H) (e : Ex H H') : Nds C nm rs ns H' :=
  ⟨h.len, fun i hi => ⟨e _ _ (h.at_ i hi).ins, e _ _ (h.at_ i hi).tup, e _ _ (h.at_ i hi).win⟩, h.ia, h.iw⟩
/-- another list may change -/
theorem Nds.other {C : Addr} {nm : V} {rs : List Rec} {ns : List Nd} {H : Hp} {p : Addr} {xs ys : List V} (h : Nds C nm rs ns H) (hp : H p = some (.lst xs)) (hw : ∀ i, i < ns.length → (R rs i).w ≠ p) : Nds C nm rs ns (upd H p (.lst ys)) := by
  refine ⟨h.len, fun i hi => ?_, h.ia, h.iw⟩
  have n := h.at_ i hi
  have n1 : (R rs i).a ≠ p := fun z => by have := n.ins; rw [z, hp] at this; cases this
  have n2 : (R rs i).t ≠ p := fun z => by have := n.tup; rw [z, hp] at this; cases this
  exact ⟨(upd_ne n1).trans n.ins, (upd_ne n2).trans n.tup, (upd_ne (hw i hi)).trans n.win⟩
/-- the within of one node -/
theorem Nds.setW {C : Addr} {nm : V} {rs : List Rec} {ns : List Nd} {H : Hp} {o : Nat} (is : List Nat) (h : Nds C nm rs ns H) (ho : o < ns.length) :
    Nds C nm rs (ns.set o { nth ns o with within := is }) (upd H (R rs o).w (.lst (refs rs is))) := by
  have hl : (ns.set o { nth ns o with within := is }).length = ns.length := by simp
  refine ⟨by rw [hl]; exact h.len, fun i hi => ?_, fun i j hi hj => h.ia i j (hl ▸ hi) (hl ▸ hj), fun i j hi hj => h.iw i j (hl ▸ hi) (hl ▸ hj)⟩
  rw [hl] at hi
  have n := h.at_ i hi
  have n1 : (R rs i).a ≠ (R rs o).w := fun z => by have := n.ins; rw [z, (h.at_ o ho).win] at this; cases this
  have n2 : (R rs i).t ≠ (R rs o).w := fun z => by have := n.tup; rw [z, (h.at_ o ho).win] at this; cases this
  rw [nth_set hi]
  by_cases e : o = i
  · subst e
    rw [if_pos rfl]
    exact ⟨(upd_ne n1).trans n.ins, (upd_ne n2).trans n.tup, upd_same⟩
  · rw [if_neg e]
    exact ⟨(upd_ne n1).trans n.ins, (upd_ne n2).trans n.tup, (upd_ne fun z => e (h.iw i o hi ho z).symm).trans n.win⟩
/-- fields of one node -/
theorem Nds.setN {C : Addr} {nm : V} {rs : List Rec} {ns : List Nd} {H : Hp} {o : Nat} (x : Nd) (h : Nds C nm rs ns H) (ho : o < ns.length) (hw : x.within = (nth ns o).within) (ha : x.at_ = (nth ns o).at_) :
    Nds C nm rs (ns.set o x) (upd H (R rs o).a (.ins C (R rs o).dx (nfL (R rs o).t (S x.sign) (S x.kind) (S x.named) (oref rs x.outer) (R rs o).w (oref rs x.binder) x.level))) := by
  have hl : (ns.set o x).length = ns.length := by simp
  refine ⟨by rw [hl]; exact h.len, fun i hi => ?_, fun i j hi hj => h.ia i j (hl ▸ hi) (hl ▸ hj), fun i j hi hj => h.iw i j (hl ▸ hi) (hl ▸ hj)⟩
  rw [hl] at hi
  have n := h.at_ i hi
  have n2 : (R rs i).t ≠ (R rs o).a := fun z => by have := n.tup; rw [z, (h.at_ o ho).ins] at this; cases this
  have n3 : (R rs i).w ≠ (R rs o).a := fun z => by have := n.win; rw [z, (h.at_ o ho).ins] at this; cases this
  rw [nth_set hi]
  by_cases e : o = i
  · subst e
    rw [if_pos rfl]
    exact ⟨upd_same, by rw [ha]; exact (upd_ne n2).trans n.tup, by rw [hw]; exact (upd_ne n3).trans n.win⟩
  · rw [if_neg e]
    exact ⟨(upd_ne fun z => e (h.ia i o hi ho z).symm).trans n.ins, (upd_ne n2).trans n.tup, (upd_ne n3).trans n.win⟩
theorem et_truL {K : PySem.W.Frag} {ta : TE} {σ : L2.St} {H : Hp} {p : Addr} {xs : List V} (h : Ev ta σ H (.ref p)) (hp : SqL K H p xs) : EvT (fun σ H Q => ta σ H fun x H' => ∃ k, TruV K x H' k ∧ Q k H') σ H (!xs.isEmpty) :=
  fun H1 e Q q => h H1 e _ fun H2 e2 => ⟨_, .inl ⟨xs, hp.imp (ex_rd (e.trans e2)) id, rfl⟩, q H2 e2⟩
theorem ev_kget {K : PySem.W.Frag} {w : World} {to : TE} {ta : TA} {σ : L2.St} {H : Hp} {p : Addr} {g : Str → Option V} {z : Str} {d : V} (h : Ev to σ H (.ref p)) (hg : Xk.KHas K w p g) (ha : EvA ta σ H [.str z, d]) : Ev (Xk.tKGet K w to ta) σ H ((g z).getD d) :=
  fun H1 e Q q => h H1 e _ fun H2 e2 => ⟨p, g, rfl, hg, ha H2 (e.trans e2) _ fun H3 e3 => ⟨z, d, rfl, q H3 (e2.trans e3)⟩⟩
theorem ariV_get {x : Wd} : (ariV (S x)).getD (.int 0) = .int (((ari x).getD 0 : Nat) : Int) := by
  have e : (S x).cps.toList = x := rfl
  unfold ariV
  rw [e]
  cases ari x <;> rfl
theorem atI_last {α : Type} {xs : List α} {v : α} (h : xs.getLast? = some v) : atI xs (-1) = some v := by
  have hn : xs ≠ [] := fun z => by rw [z] at h; cases h
  have h1 : 1 ≤ xs.length := by cases xs with | nil => exact absurd rfl hn | cons a b => simp
  have hx : ixN xs.length (-1) = some (xs.length - 1) := by
    unfold ixN
    simp
    omega
  unfold atI
  rw [hx]
  show xs[xs.length - 1]? = some v
  rw [← List.getLast?_eq_getElem?]
  exact h
theorem getLast_refs {rs : List Rec} {is : List Nat} : (refs rs is).getLast? = is.getLast?.map fun i => .ref (R rs i).a := by
  unfold refs
  rw [List.getLast?_map]
theorem s_pop {K : PySem.W.Frag} {ta : TE} {σ : L2.St} {H : Hp} {p : Addr} {xs : List V} {y : V} {D : Ends} (h : Ev ta σ H (.ref p)) (hp : H p = some (.lst xs)) (hy : xs.getLast? = some y) (k : ∀ H1, Ex H H1 → D.nx σ (upd H1 p (.lst xs.dropLast))) : tDrop (tBM0 K "list" rPop ta) D σ H :=
  h H (Ex.refl H) _ fun H1 e1 => ⟨.inl ⟨rfl, _, SqL.of (e1 _ _ hp)⟩, p, xs, y, rfl, rfl, e1 _ _ hp, by rw [← List.getLast?_eq_getElem?]; exact hy, k H1 e1⟩
end K5
set_option Elab.async false
set_option linter.all false
set_option maxRecDepth 100000
set_option maxHeartbeats 4000000
namespace K5
open PySem PySem.Spec PyProof.Rows L2 Evl Xl SX Mi
theorem set_nth {ns : List Nd} {o j : Nat} {x : Nd} (hj : j < ns.length) (ho : o < ns.length) (p : Nd → Prop) (h1 : j ≠ o → p (nth ns j)) (h2 : j = o → p x) : p (nth (ns.set o x) j) := by
  rw [nth_set hj]
  by_cases e : o = j
  · rw [if_pos e]; exact h2 e.symm
  · rw [if_neg e]; exact h1 fun z => e z.symm
theorem addIn_len {ns : List Nd} {wt : List Nat} {i : Nat} : (addIn ns wt i).length = ns.length := by
  unfold addIn
  split <;> simp
theorem popM_sub {ns : List Nd} : ∀ {f : Nat} {wt : List Nat}, ∀ j ∈ popM ns f wt, j ∈ wt := by
  intro f
  induction f with
  | zero => intro wt j h; exact h
  | succ f ih =>
    intro wt j h
    unfold popM at h
    split at h
    · exact h
    · split at h
      · exact List.dropLast_subset _ (ih j h)
      · exact h
theorem popM_le {ns : List Nd} : ∀ {f : Nat} {wt : List Nat}, (popM ns f wt).length ≤ wt.length := by
  intro f
  induction f with
  | zero => intro wt; exact Nat.le_refl _
  | succ f ih =>
    intro wt
    unfold popM
    split
    · exact Nat.le_refl _
    · split
      · have := @ih wt.dropLast
        have h2 : wt.dropLast.length ≤ wt.length := by simp
        omega
      · exact Nat.le_refl _
section
variable {P : Program} {w : World} {K : PySem.W.Frag} {mg : Str → Option Value} {base : Heap} {f : Addr} {fd : FuncData}
def TW (rs : List Rec) (n : Nat) (wl : Addr) : Addr → Prop := fun c => c = wl ∨ ∃ j, j < n ∧ c = (R rs j).w
def spHang (C : Addr) : Sp := fun vs H Q _ => ∃ (nm : V) (rs : List Rec) (ns : List Nd) (wt : List Nat) (i : Nat) (wl : Addr), vs = [.ref (R rs i).a, .ref wl] ∧ Nds C nm rs ns H ∧ i < ns.length ∧ (∀ j ∈ wt, j < ns.length) ∧ H wl = some (.lst (refs rs wt)) ∧
  (∀ j, j < ns.length → (R rs j).w ≠ wl) ∧ wt.length ≤ 1000 ∧ (∀ j, j < ns.length → (nth ns j).within.length ≤ 1000) ∧
  ∀ H', Nds C nm rs (hangM ns wt i).1 H' → H' wl = some (.lst (refs rs (hangM ns wt i).2)) → Keep (TW rs ns.length wl) H H' → Q .non H'
theorem scH : FnScope ["node", "waiting"] ["node", "waiting"] (C8.fnScope (top 25)) := C8.fnScope_by (by decide +kernel)
theorem ok_hang {C : Addr} (F : C8.Def K mg "hang" (top 25) f fd) (b : Binds K fd ["node", "waiting"] []) (T : Txt2 K w mg) (N : NodeC K mg C) : C8.Cal P w K mg base 1 "hang" (spHang C) [] := by
  obtain ⟨pa, ma, ha⟩ := T.ari_
  refine C8.cal0 F b .nil scH (fun vs H Q E h => by obtain ⟨nm, rs, ns, wt, i, wl, rfl, _⟩ := h; rfl) (fun cdv A outer s H vs Q E hr h => ?_)
  obtain ⟨nm, rs, ns, wt, i, wl, rfl, hN, hi, hwt, hwl, hne, hl1, hl2, k⟩ := h
  refine ⟨_, pss_cut (ps_if (pt_truth (pv 1) (by intro _; rfl)) (pss_one (ps_expr (pe_bm PySem.F.plainAttrs_list PySem.F.slot_list_append PySem.F.type_list_append mt_append (pe_fld (pe_ix ix_list (pv 1) (pe_un un_neg pe_int) (fun _ _ => rfl)) rfl) (pa_cons (pv 0) pa_nil)))) pss_nil)
    (pss_cons (ps_expr (pe_bm PySem.F.plainAttrs_list PySem.F.slot_list_append PySem.F.type_list_append mt_append (pv 1) (pa_cons (pv 0) pa_nil)))
    (pss_one (ps_while PassesOwn.never (pw_and (pt_truth (pv 1) (by intro _; rfl)) (pw_and1 (pt_cmpR op_eq (pe_callB call_len_seq (by rfl) T.len_ boot_len (pa_cons (pe_fld (pe_ix ix_list (pv 1) (pe_un un_neg pe_int) (fun _ _ => rfl)) rfl) pa_nil))
        (Xk.pe_kget (pe_glob (v := .ref pa) (by rfl) ma rfl) (pa_cons (pe_fld (pe_ix ix_list (pv 1) (pe_un un_neg pe_int) (fun _ _ => rfl)) rfl) (pa_cons pe_int pa_nil))) (nomark _)))).pt
      (pss_one (ps_expr (pe_bm0 PySem.F.plainAttrs_list PySem.F.slot_list_pop PySem.F.type_list_pop mt_pop (pv 1))))))), ?_⟩
  have v0 : ∀ {G : Hp}, Ev (tVar 0) (start ["node", "waiting"] [V.ref (R rs i).a, .ref wl]) G (.ref (R rs i).a) := ev_var rfl
  have v1 : ∀ {G : Hp}, Ev (tVar 1) (start ["node", "waiting"] [V.ref (R rs i).a, .ref wl]) G (.ref wl) := ev_var rfl
  refine q_cut (M := fun σ G => σ = start ["node", "waiting"] [V.ref (R rs i).a, .ref wl] ∧ Nds C nm rs (addIn ns wt i) G ∧ G wl = some (.lst (refs rs wt)) ∧ Keep (TW rs ns.length wl) H G) ?_ ?_
  · refine s_when (b := !(refs rs wt).isEmpty) (et_truL v1 (sq_of hwl)) (fun hb H1 e1 => ?_) (fun hb H1 e1 => ?_)
    · cases ho : wt.getLast? with
      | none =>
        rw [List.getLast?_eq_none_iff] at ho
        rw [ho] at hb
        cases hb
      | some o =>
        have ho2 : o < ns.length := hwt o (List.mem_of_getLast? ho)
        have n := (hN.at_ o ho2).ins
        have nw := (hN.at_ o ho2).win
        have lt : (refs rs wt).getLast? = some (.ref (R rs o).a) := by rw [getLast_refs, ho]; rfl
        refine s_app (e1 _ _ nw) (ev_fld (ev_op v1 (ev_un ev_c ru_neg) (rv_ixL (sq_of (e1 _ _ hwl)) (atI_last lt))) (e1 _ _ n) N.cl N.n6 rfl) v0 (by unfold refs; rw [List.length_map]; have := hl2 o ho2; omega) fun H2 e2 => ⟨rfl, ?_, ?_, ?_⟩
        · have := (hN.ex (e1.trans e2)).setW ((nth ns o).within ++ [i]) ho2
          unfold addIn
          rw [ho]
          unfold refs at this ⊢
          rw [List.map_append] at this
          exact this
        · exact (upd_ne (hne o ho2).symm).trans ((e1.trans e2) _ _ hwl)
        · exact (Keep.of (e1.trans e2)).put (.inr ⟨o, ho2, rfl⟩)
    · have hz : wt = [] := by
        cases wt with
        | nil => rfl
        | cons a b => cases hb
      subst hz
      exact ⟨rfl, hN.ex e1, e1 _ _ hwl, Keep.of e1⟩
  · rintro σ' G ⟨rfl, hG, hGw, hK⟩
    have hlen : (addIn ns wt i).length = ns.length := addIn_len
    have hkeep : ∀ j, j < ns.length → (R rs j).w ≠ wl := hne
    refine q_app hGw v1 v0 (by unfold refs; rw [List.length_map]; omega) fun H1 e1 => ?_
    have hG1 : Nds C nm rs (addIn ns wt i) (upd H1 wl (.lst (refs rs wt ++ [.ref (R rs i).a]))) := (hG.ex e1).other (e1 _ _ hGw) fun j hj => hne j (hlen ▸ hj)
    have hK1 : Keep (TW rs ns.length wl) H (upd H1 wl (.lst (refs rs wt ++ [.ref (R rs i).a]))) := (hK.ex e1).put (.inl rfl)
    refine s_while (fun m σ G => σ = start ["node", "waiting"] [V.ref (R rs i).a, .ref wl] ∧ ∃ (wt' : List Nat) (f' : Nat), m = wt'.length ∧ wt'.length ≤ f' ∧ popM (addIn ns wt i) f' wt' = (hangM ns wt i).2 ∧ (∀ j ∈ wt', j < ns.length) ∧
      Nds C nm rs (addIn ns wt i) G ∧ G wl = some (.lst (refs rs wt')) ∧ Keep (TW rs ns.length wl) H G) (wt.length + 1) ?_ ?_
    · refine ⟨rfl, wt ++ [i], wt.length + 1, by simp, by simp, rfl, fun j hj => ?_, hG1, ?_, hK1⟩
      · rw [List.mem_append] at hj
        rcases hj with hj | hj
        · exact hwt j hj
        · simp at hj; rw [hj]; exact hi
      · rw [upd_same]
        unfold refs
        rw [List.map_append]
        rfl
    · rintro m σ' G' ⟨rfl, wt', f', rfl, hf, hp, hj, hN', hw', hK'⟩
      cases ho : wt'.getLast? with
      | none =>
        have hz : wt' = [] := by rwa [List.getLast?_eq_none_iff] at ho
        subst hz
        refine ⟨false, et_is (et_and (b := false) (et_truL v1 (sq_of hw')) fun z => (by cases z)) rfl, (fun z => (by cases z)), fun _ H2 e2 => k H2 (hN'.ex e2) ?_ (hK'.ex e2)⟩
        have : popM (addIn ns wt i) f' [] = [] := by cases f' <;> rfl
        rw [← hp, this]
        exact e2 _ _ hw'
      | some o =>
        have ho2 : o < ns.length := hj o (List.mem_of_getLast? ho)
        have n := (hN'.at_ o (hlen ▸ ho2)).ins
        have nw := (hN'.at_ o (hlen ▸ ho2)).win
        have lt : (refs rs wt').getLast? = some (.ref (R rs o).a) := by rw [getLast_refs, ho]; rfl
        have he : wt' ≠ [] := fun z => by rw [z] at ho; cases ho
        have hne' : (!(refs rs wt').isEmpty) = true := by
          cases wt' with
          | nil => exact absurd rfl he
          | cons a b => rfl
        have fu : decide ((V.int ((refs rs (nth (addIn ns wt i) o).within).length : Int)) = V.int (((ari (nth (addIn ns wt i) o).kind).getD 0 : Nat) : Int)) = full (addIn ns wt i) o := by
          unfold full
          refine decide_eq_decide.mpr ⟨fun z => ?_, fun z => ?_⟩
          · have z2 := V.int.inj z
            unfold refs at z2
            rw [List.length_map] at z2
            exact Int.ofNat.inj z2
          · unfold refs
            rw [List.length_map, z]
        have vx : Ev (tOp (rIxL K) (tVar 1) (tUn (rU fun i => V.int (-i)) (tC (V.int 1)))) (start ["node", "waiting"] [V.ref (R rs i).a, .ref wl]) G' (.ref (R rs o).a) := ev_op v1 (ev_un ev_c ru_neg) (rv_ixL (sq_of hw') (atI_last lt))
        refine ⟨full (addIn ns wt i) o, et_is (et_and (b := full (addIn ns wt i) o) (et_truL v1 (sq_of hw')) fun _ => et_is (et_test (ev_op (ev_len (ev_fld vx n N.cl N.n6 rfl) (sq_of nw)) (ev_is (ev_kget ev_c ha (ea_cons (ev_fld vx n N.cl N.n3 rfl) (ea_cons ev_c ea_nil))) ariV_get) (rv_eq rfl))) fu) (by rw [hne']; rfl), fun hb H2 e2 => ?_, fun hb H2 e2 => k H2 (hN'.ex e2) ?_ (hK'.ex e2)⟩
        · refine ⟨_, fun _ _ z => z, s_pop v1 (e2 _ _ hw') lt fun H3 e3 => ?_⟩
          have h1 : 1 ≤ wt'.length := by cases wt' with | nil => exact absurd rfl he | cons a b => simp
          refine ⟨wt'.dropLast.length, by rw [List.length_dropLast]; omega, rfl, wt'.dropLast, f' - 1, rfl, by rw [List.length_dropLast]; omega, ?_, fun j hj' => hj j (List.dropLast_subset _ hj'), (hN'.ex (e2.trans e3)).other ((e2.trans e3) _ _ hw') fun j hj' => hne j (hlen ▸ hj'), ?_, (hK'.ex (e2.trans e3)).put (.inl rfl)⟩
          · rw [← hp]
            obtain ⟨g, rfl⟩ : ∃ g, f' = g + 1 := ⟨f' - 1, by omega⟩
            conv => rhs; unfold popM
            rw [ho]
            simp only [hb, if_true, Nat.add_sub_cancel]
          · rw [upd_same]
            unfold refs
            rw [← List.map_dropLast]
        · have : popM (addIn ns wt i) f' wt' = wt' := by
            cases f' with
            | zero => rfl
            | succ g =>
              unfold popM
              rw [ho]
              simp only [hb, Bool.false_eq_true, if_false]
          rw [← hp, this]
          exact e2 _ _ hw'
end
end K5
set_option Elab.async false
set_option linter.all false
set_option maxRecDepth 100000
set_option maxHeartbeats 4000000
namespace K5
open PySem PySem.Spec PyProof.Rows L2 Evl Xl SX Mi
theorem s_fld {K : PySem.W.Frag} {ta te : TE} {σ : L2.St} {H : Hp} {f : Str} {a C dx : Addr} {fs : List (Str × V)} {v : V} {D : Ends} (ha : H a = some (.ins C dx fs)) (h0 : Ev ta σ H (.ref a)) (h : Ev te σ H v) (hc : Cls K C) (hn : NoAttr K C f) (hl : fs.length < 1000)
    (k : ∀ H1, Ex H H1 → D.nx σ (upd H1 a (.ins C dx (putF f v fs)))) : sFld K ta te f D σ H :=
  h H (Ex.refl H) _ fun H1 e1 => h0 H1 e1 _ fun H2 e2 => ⟨a, C, dx, fs, rfl, e2 _ _ (e1 _ _ ha), hc, hn, hl, k H2 (e1.trans e2)⟩
theorem climb_non {ns : List Nd} {sg : Wd} {m b : Nat} : climb ns sg m b none = none := by cases m <;> rfl
theorem et_nn {te : TE} {σ : L2.St} {H : Hp} (h : Ev te σ H .non) : EvT (tB (tNotN te)) σ H false := et_B (ev_is (ev_notN h) (by simp))
theorem et_nr {te : TE} {σ : L2.St} {H : Hp} {a : Addr} (h : Ev te σ H (.ref a)) : EvT (tB (tNotN te)) σ H true := et_B (ev_is (ev_notN h) (by simp))
theorem et_in {te : TE} {σ : L2.St} {H : Hp} (h : Ev te σ H .non) : EvT (tB (tIsN te)) σ H true := et_B (ev_is (ev_isN h) (by simp))
theorem et_ir {te : TE} {σ : L2.St} {H : Hp} {a : Addr} (h : Ev te σ H (.ref a)) : EvT (tB (tIsN te)) σ H false := et_B (ev_is (ev_isN h) (by simp))
section
variable {P : Program} {w : World} {K : PySem.W.Frag} {mg : Str → Option Value} {base : Heap} {f : Addr} {fd : FuncData}
structure Wf (ns : List Nd) : Prop where
  out : ∀ i, i < ns.length → ∀ o, (nth ns i).outer = some o → o < i ∧ (nth ns o).within ≠ []
  win : ∀ i, i < ns.length → ∀ j ∈ (nth ns i).within, j < ns.length
def spBind (C : Addr) : Sp := fun vs H Q _ => ∃ (nm : V) (rs : List Rec) (ns : List Nd) (i : Nat), vs = [.ref (R rs i).a] ∧ Nds C nm rs ns H ∧ Wf ns ∧ i < ns.length ∧ (nth ns i).binder = none ∧
  ∀ H', Nds C nm rs (ns.set i (bindM ns i)) H' → Keep (fun c => c = (R rs i).a) H H' → Q .non H'
theorem scB : FnScope ["node", "below", "above"] ["node"] (C8.fnScope (top 26)) := C8.fnScope_by (by decide +kernel)
theorem ok_bind {C : Addr} (F : C8.Def K mg "bind" (top 26) f fd) (b : Binds K fd ["node"] []) (T : Txt2 K w mg) (N : NodeC K mg C) : C8.Cal P w K mg base 1 "bind" (spBind C) [] := by
  refine C8.cal0 F b .nil scB (fun vs H Q E h => by obtain ⟨nm, rs, ns, i, rfl, _⟩ := h; rfl) (fun cdv A outer s H vs Q E hr h => ?_)
  obtain ⟨nm, rs, ns, i, rfl, hN, hW, hi, hb, k⟩ := h
  refine ⟨_, pss_cons (ps_set (i := 1) scB.nd rfl (Or.inl rfl) (pv 0)) (pss_cons (ps_set (i := 2) scB.nd rfl (Or.inl rfl) (pe_fld (pv 0) rfl))
    (pss_cons (ps_while PassesOwn.never (pw_and (pt_cmp (pc_notN (pv 2))) (pw_and1 (pt_cmp (pc_isN (pe_fld (pv 0) rfl))))).pt
      (pss_cons (ps_if (pw_and (pt_cmpR op_eq (pe_fld (pv 2) rfl) (pe_fld (pv 0) rfl) (nomark _)) (pw_and1 (pt_cmpR (Xq.op_eqI (Nat.lt_of_le_of_lt (Nat.le_trans (Nat.le_add_right _ _) (Nat.le_add_right _ _)) hr.un)) (pe_ix ix_list (pe_fld (pv 2) rfl) (pe_un un_neg pe_int) (fun _ _ => rfl)) (pv 1) (nomark _)))).pt
          (pss_one (ps_fld (pv 0) (pv 2) rfl)) pss_nil)
        (pss_cons (ps_set (i := 1) scB.nd rfl (Or.inl rfl) (pv 2)) (pss_one (ps_set (i := 2) scB.nd rfl (Or.inl rfl) (pe_fld (pv 2) rfl))))))
    (pss_one (ps_if (pt_cmp (pc_isN (pe_fld (pv 0) rfl))) (pss_one (ps_fld (pv 0) pe_str rfl)) pss_nil)))), ?_⟩
  have hbind : bindM ns i = match climb ns (nth ns i).sign (i + 1) i (nth ns i).outer with
      | some a => { nth ns i with binder := some a }
      | none => { nth ns i with kind := [112, 97, 114, 116] } := rfl
  generalize hc : climb ns (nth ns i).sign (i + 1) i (nth ns i).outer = res at hbind
  have n0 := (hN.at_ i hi).ins
  have v0 : ∀ {x y : Option V} {G : Hp}, Ev (tVar 0) ([some (.ref (R rs i).a), x, y] : L2.St) G (.ref (R rs i).a) := ev_var rfl
  have v1 : ∀ {x : Option V} {y : V} {z : Option V} {G : Hp}, Ev (tVar 1) ([x, some y, z] : L2.St) G y := ev_var rfl
  have v2 : ∀ {x y : Option V} {z : V} {G : Hp}, Ev (tVar 2) ([x, y, some z] : L2.St) G z := ev_var rfl
  refine q_asg (v := .ref (R rs i).a) (ev_var rfl) fun H1 e1 => ?_
  refine q_asg (v := oref rs (nth ns i).outer) (ev_fld (ev_var rfl) (e1 _ _ n0) N.cl N.n5 rfl) fun H2 e2 => ?_
  refine q_while (fun m σ G =>
      (∃ (b : Nat) (oa : Option Nat), b < ns.length ∧ σ = [some (.ref (R rs i).a), some (.ref (R rs b).a), some (oref rs oa)] ∧ Nds C nm rs ns G ∧ Keep (fun c => c = (R rs i).a) H G ∧ climb ns (nth ns i).sign m b oa = res ∧ ∀ a, oa = some a → a < m ∧ a < ns.length ∧ (nth ns a).within ≠ []) ∨
      (∃ (a : Nat) (x y : V), m = 0 ∧ σ = [some (.ref (R rs i).a), some x, some y] ∧ res = some a ∧ Nds C nm rs (ns.set i { nth ns i with binder := some a }) G ∧ Keep (fun c => c = (R rs i).a) H G)) (i + 1) ?_ ?_
  · exact .inl ⟨i, _, hi, rfl, hN.ex (e1.trans e2), Keep.of (e1.trans e2), hc, fun a e => by
      have := hW.out i hi a e
      exact ⟨by omega, by omega, this.2⟩⟩
  · rintro m σ' G (⟨b, oa, hbl, rfl, hG, hK, hcl, hoa⟩ | ⟨a, x, y, rfl, rfl, hres, hG, hK⟩)
    · have n := (hG.at_ i hi).ins
      cases oa with
      | none =>
        rw [climb_non] at hcl
        subst hcl
        refine ⟨false, et_is (et_and (b := false) (et_nn v2) (fun z => (by cases z))) rfl, (fun z => (by cases z)), fun _ H3 e3 => ?_⟩
        refine s_when (b := true) (et_in (ev_fld v0 (e3 _ _ n) N.cl N.n7 (by rw [hb]; rfl))) (fun _ H4 e4 => ?_) (fun z => (by cases z))
        refine s_fld (e4 _ _ (e3 _ _ n)) v0 ev_c N.cl N.n3 (by show 8 < 1000; decide) fun H5 e5 => ?_
        have g := (hG.ex ((e3.trans e4).trans e5)).setN { nth ns i with kind := [112, 97, 114, 116] } hi rfl rfl
        rw [show S [112, 97, 114, 116] = ("part" : Str) by decide] at g
        refine k _ ?_ ((hK.ex ((e3.trans e4).trans e5)).put rfl)
        rw [hbind]
        exact g
      | some a =>
        obtain ⟨ha1, ha2, ha3⟩ := hoa a rfl
        obtain ⟨g, rfl⟩ : ∃ g, m = g + 1 := ⟨m - 1, by omega⟩
        have na := (hG.at_ a ha2).ins
        have nw := (hG.at_ a ha2).win
        have nb := (hG.at_ b hbl).ins
        obtain ⟨x, hx⟩ : ∃ x, (nth ns a).within.getLast? = some x := by
          cases z : (nth ns a).within.getLast? with
          | none => exact absurd (List.getLast?_eq_none_iff.mp z) ha3
          | some x => exact ⟨x, rfl⟩
        have hxl : x < ns.length := hW.win a ha2 x (List.mem_of_getLast? hx)
        have nx := (hG.at_ x hxl).ins
        have lt : (refs rs (nth ns a).within).getLast? = some (.ref (R rs x).a) := by rw [getLast_refs, hx]; rfl
        have hd : decide ((R rs x).a = (R rs b).a) = decide ((nth ns a).within.getLast? = some b) := by
          rw [hx]
          refine decide_eq_decide.mpr ⟨fun z => ?_, fun z => ?_⟩
          · rw [hG.ia x b hxl hbl z]
          · cases z; rfl
        refine ⟨true, et_is (et_and (b := true) (et_nr (a := (R rs a).a) v2) (fun _ => et_in (ev_fld v0 n N.cl N.n7 (by rw [hb]; rfl)))) rfl, (fun _ H3 e3 => ?_), (fun z => (by cases z))⟩
        refine ⟨_, fun _ _ z => z, ?_⟩
        refine q_when (b := decide ((nth ns a).named = (nth ns i).sign) && decide ((nth ns a).within.getLast? = some b)) (et_and (et_is (et_test (ev_op (ev_fld v2 (e3 _ _ na) N.cl N.n4 rfl) (ev_fld v0 (e3 _ _ n) N.cl N.n2 rfl) (rv_eq rfl))) S_eqc)
          fun _ => et_is (et_test (ev_op (ev_op (ev_fld v2 (e3 _ _ na) N.cl N.n6 rfl) (ev_un ev_c ru_neg) (rv_ixL (sq_of (e3 _ _ nw)) (atI_last lt))) v1 fun G1 d1 Q' q => ⟨_, _, C, _, _, _, _, rfl, rfl, d1 _ _ (e3 _ _ nx), d1 _ _ (e3 _ _ nb), N.eq, q G1 (Ex.refl G1)⟩)) hd)
          (fun hm H4 e4 => ?_) (fun hm H4 e4 => ?_)
        · have hm2 : (nth ns a).named = (nth ns i).sign ∧ (nth ns a).within.getLast? = some b := by simpa using hm
          have hr2 : res = some a := by
            rw [← hcl]
            unfold climb
            rw [if_pos hm2]
          refine s_fld (e4 _ _ (e3 _ _ n)) v0 v2 N.cl N.n7 (by show 8 < 1000; decide) fun H5 e5 => ?_
          have gg := (hG.ex ((e3.trans e4).trans e5)).setN { nth ns i with binder := some a } hi rfl rfl
          have kk := (hK.ex ((e3.trans e4).trans e5)).put (o := .ins C (R rs i).dx (nfL (R rs i).t (S (nth ns i).sign) (S (nth ns i).kind) (S (nth ns i).named) (oref rs (nth ns i).outer) (R rs i).w (oref rs (some a)) (nth ns i).level)) (rfl : (R rs i).a = (R rs i).a)
          have na2 := (gg.at_ a (by simp; exact ha2)).ins
          refine q_asg v2 fun H6 e6 => ?_
          refine s_asg (ev_fld v2 (e6 _ _ na2) N.cl N.n5 rfl) fun H7 e7 => ?_
          exact ⟨0, by omega, .inr ⟨a, _, _, rfl, rfl, hr2, gg.ex (e6.trans e7), kk.ex (e6.trans e7)⟩⟩
        · have hm2 : ¬ ((nth ns a).named = (nth ns i).sign ∧ (nth ns a).within.getLast? = some b) := by simpa using hm
          refine q_asg v2 fun H6 e6 => ?_
          refine s_asg (ev_fld v2 (e6 _ _ (e4 _ _ (e3 _ _ na))) N.cl N.n5 rfl) fun H7 e7 => ?_
          have eg := ((e3.trans e4).trans e6).trans e7
          refine ⟨g, by omega, .inl ⟨a, (nth ns a).outer, ha2, rfl, hG.ex eg, hK.ex eg, ?_, fun c hc' => ?_⟩⟩
          · rw [← hcl]
            conv => rhs; unfold climb
            rw [if_neg hm2]
          · have := hW.out a ha2 c hc'
            exact ⟨by omega, by omega, this.2⟩
    · have n := (hG.at_ i (by simp; exact hi)).ins
      have hs : (nth (ns.set i { nth ns i with binder := some a }) i).binder = some a := by rw [nth_set hi, if_pos rfl]
      refine ⟨false, et_is (et_and (b := false) (et_B (ev_is (ev_notN v2) (show V.bl (!decide (y = .non)) = V.bl (!decide (y = .non)) from rfl))) (fun _ => et_ir (a := (R rs a).a) (ev_fld v0 n N.cl N.n7 (by rw [hs]; rfl)))) (Bool.and_false _), (fun z => (by cases z)), fun _ H3 e3 => ?_⟩
      refine s_when (b := false) (et_ir (a := (R rs a).a) (ev_fld v0 (e3 _ _ n) N.cl N.n7 (by rw [hs]; rfl))) (fun z => (by cases z)) (fun _ H4 e4 => ?_)
      refine k _ ?_ (hK.ex (e3.trans e4))
      rw [hbind, hres]
      exact hG.ex (e3.trans e4)
end
end K5
set_option Elab.async false
set_option linter.all false
set_option maxRecDepth 100000
set_option maxHeartbeats 4000000
namespace K5
open PySem PySem.Spec PyProof.Rows L2 Evl Xl SX Mi
theorem R_app {rs : List Rec} {r : Rec} {i : Nat} (h : i < rs.length) : R (rs ++ [r]) i = R rs i := by
  unfold R
  simp [List.getD_eq_getElem?_getD, List.getElem?_append_left h]
theorem R_new {rs : List Rec} {r : Rec} : R (rs ++ [r]) rs.length = r := by
  unfold R
  simp [List.getD_eq_getElem?_getD]
theorem nth_app {ns : List Nd} {r : Nd} {i : Nat} (h : i < ns.length) : nth (ns ++ [r]) i = nth ns i := by
  unfold nth
  simp [List.getD_eq_getElem?_getD, List.getElem?_append_left h]
theorem nth_new {ns : List Nd} {r : Nd} : nth (ns ++ [r]) ns.length = r := by
  unfold nth
  simp [List.getD_eq_getElem?_getD]
theorem refs_app {rs : List Rec} {r : Rec} {is : List Nat} (h : ∀ j ∈ is, j < rs.length) : refs (rs ++ [r]) is = refs rs is := by
  unfold refs
  refine List.map_congr_left fun j hj => ?_
  rw [R_app (h j hj)]
theorem oref_app {rs : List Rec} {r : Rec} {o : Option Nat} (h : ∀ j, o = some j → j < rs.length) : oref (rs ++ [r]) o = oref rs o := by
  cases o with
  | none => rfl
  | some j => show V.ref _ = V.ref _; rw [R_app (h j rfl)]
theorem Nds.add {C : Addr} {nm : V} {rs : List Rec} {ns : List Nd} {G : Hp} (h : Nds C nm rs ns G) (wf : Wf ns) (bn : ∀ i, i < ns.length → (nth ns i).binder = none) (x : Nd) (r : Rec) (hx : NodeAt C nm rs G r x) (xo : ∀ j, x.outer = some j → j < ns.length) (xb : x.binder = none) (xw : x.within = [])
    (fa : ∀ i, i < ns.length → (R rs i).a ≠ r.a) (fw : ∀ i, i < ns.length → (R rs i).w ≠ r.w) : Nds C nm (rs ++ [r]) (ns ++ [x]) G := by
  have hl := h.len
  have spl : ∀ i, i < (ns ++ [x]).length → i < ns.length ∨ i = ns.length := fun i hi => by simp at hi; omega
  have rn : R (rs ++ [r]) ns.length = r := by rw [← hl]; exact R_new
  refine ⟨by simp [hl], fun i hi => ?_, fun i j hi hj e => ?_, fun i j hi hj e => ?_⟩
  · rcases spl i hi with hi | rfl
    · rw [R_app (hl ▸ hi), nth_app hi]
      have n := h.at_ i hi
      refine ⟨?_, n.tup, ?_⟩
      · rw [oref_app fun j e => by have := wf.out i hi j e; omega, oref_app fun j e => by rw [bn i hi] at e; cases e]
        exact n.ins
      · rw [refs_app fun j e => by have := wf.win i hi j e; omega]
        exact n.win
    · rw [rn, nth_new]
      refine ⟨?_, hx.tup, ?_⟩
      · rw [oref_app fun j e => by have := xo j e; omega, oref_app fun j e => by rw [xb] at e; cases e]
        exact hx.ins
      · rw [refs_app fun j e => by rw [xw] at e; cases e]
        exact hx.win
  · rcases spl i hi with hi | rfl <;> rcases spl j hj with hj | rfl
    · rw [R_app (hl ▸ hi), R_app (hl ▸ hj)] at e
      exact h.ia i j hi hj e
    · rw [R_app (hl ▸ hi), rn] at e
      exact absurd e (fa i hi)
    · rw [R_app (i := j) (hl ▸ hj), rn] at e
      exact absurd e.symm (fa j hj)
    · rfl
  · rcases spl i hi with hi | rfl <;> rcases spl j hj with hj | rfl
    · rw [R_app (hl ▸ hi), R_app (hl ▸ hj)] at e
      exact h.iw i j hi hj e
    · rw [R_app (hl ▸ hi), rn] at e
      exact absurd e (fw i hi)
    · rw [R_app (i := j) (hl ▸ hj), rn] at e
      exact absurd e.symm (fw j hj)
    · rfl
/-- what hang leaves of each node -/
theorem addIn_nth {ns : List Nd} {wt : List Nat} {i j : Nat} (hj : j < ns.length) : nth (addIn ns wt i) j = if wt.getLast? = some j then { nth ns j with within := (nth ns j).within ++ [i] } else nth ns j := by
  unfold addIn
  cases h : wt.getLast? with
  | none => rfl
  | some o =>
    show nth (ns.set o { nth ns o with within := (nth ns o).within ++ [i] }) j = _
    rw [nth_set hj]
    by_cases e : o = j
    · subst e; simp
    · rw [if_neg e, if_neg (fun z => e (Option.some.inj z))]
theorem wf_hang {ns : List Nd} {wt : List Nat} {x : Nd} (wf : Wf ns) (hw : ∀ j ∈ wt, j < ns.length) (xo : x.outer = wt.getLast?) (xw : x.within = []) : Wf (addIn (ns ++ [x]) wt ns.length) := by
  have hl : (addIn (ns ++ [x]) wt ns.length).length = ns.length + 1 := by rw [addIn_len]; simp
  have lst : ∀ o, wt.getLast? = some o → o < ns.length := fun o e => hw o (List.mem_of_getLast? e)
  have ou : ∀ j, j < ns.length + 1 → (nth (addIn (ns ++ [x]) wt ns.length) j).outer = (nth (ns ++ [x]) j).outer := fun j hj => by
    rw [addIn_nth (by simp; exact hj)]
    split <;> rfl
  have wi : ∀ j, j < ns.length + 1 → (nth (addIn (ns ++ [x]) wt ns.length) j).within = if wt.getLast? = some j then (nth (ns ++ [x]) j).within ++ [ns.length] else (nth (ns ++ [x]) j).within := fun j hj => by
    rw [addIn_nth (by simp; exact hj)]
    split <;> rfl
  refine ⟨fun i hi o e => ?_, fun i hi j hj => ?_⟩
  · rw [hl] at hi
    rw [ou i hi] at e
    by_cases z : i < ns.length
    · rw [nth_app z] at e
      have := wf.out i z o e
      refine ⟨this.1, ?_⟩
      rw [wi o (by omega)]
      split
      · simp
      · rw [nth_app (by omega)]; exact this.2
    · have z2 : i = ns.length := by omega
      subst z2
      rw [nth_new, xo] at e
      have := lst o e
      refine ⟨this, ?_⟩
      rw [wi o (by omega), if_pos e]
      simp
  · rw [hl] at hi ⊢
    rw [wi i hi] at hj
    have base : ∀ j ∈ (nth (ns ++ [x]) i).within, j < ns.length + 1 := fun j hj => by
      by_cases z : i < ns.length
      · rw [nth_app z] at hj
        have := wf.win i z j hj
        omega
      · have z2 : i = ns.length := by omega
        subst z2
        rw [nth_new, xw] at hj
        cases hj
    split at hj
    · rw [List.mem_append] at hj
      rcases hj with hj | hj
      · exact base j hj
      · simp at hj; omega
    · exact base j hj
theorem nameOk_len {x : Wd} (h : nameOk x = true) : x.length ≤ 8 := by
  unfold nameOk at h
  simp at h
  omega
theorem readNd_facts {ws : List Wd} {at_ : Nat} {o : Option Nat} {lv : Nat} {nd : Nd} (h : readNd ws at_ o lv = some nd) : nd.named.length ≤ 8 ∧ nd.outer = o ∧ nd.within = [] ∧ nd.binder = none ∧ nd.at_ = at_ ∧ nd.level = lv := by
  have fr : ∀ x : Wd, okFree x = true → x.length ≤ 8 := fun x hx => by
    unfold okFree at hx
    simp only [Bool.and_eq_true] at hx
    exact nameOk_len hx.1.1
  unfold readNd at h
  simp only at h
  generalize (if at_ + 1 < ws.length then ws.getD (at_ + 1) [] else []) = nmw at h
  split at h
  · cases h
  · split at h
    · split at h
      · split at h
        · cases h
          exact ⟨fr _ (by assumption), rfl, rfl, rfl, rfl, rfl⟩
        · cases h
      · cases h
        exact ⟨by simp [mkNd], rfl, rfl, rfl, rfl, rfl⟩
    · split at h
      · cases h
        exact ⟨by simp [mkNd], rfl, rfl, rfl, rfl, rfl⟩
      · split at h
        · cases h
          exact ⟨by simp [mkNd], rfl, rfl, rfl, rfl, rfl⟩
        · cases h
end K5
set_option Elab.async false
set_option linter.all false
set_option maxRecDepth 100000
set_option maxHeartbeats 4000000
namespace K5
open PySem PySem.Spec PyProof.Rows L2 Evl Xl SX Mi
theorem bindTo_len : ∀ {k : Nat} {ns : List Nd}, (bindTo k ns).length = ns.length := by
  intro k
  induction k with
  | zero => intro ns; rfl
  | succ k ih =>
    intro ns
    unfold bindTo
    simp only
    split
    · rw [List.length_set]; exact ih
    · exact ih
theorem bindM_same {ns : List Nd} {i : Nat} : (Mi.bindM ns i).outer = (nth ns i).outer ∧ (Mi.bindM ns i).within = (nth ns i).within ∧ (Mi.bindM ns i).at_ = (nth ns i).at_ ∧ (Mi.bindM ns i).named = (nth ns i).named ∧ (Mi.bindM ns i).sign = (nth ns i).sign := by
  unfold Mi.bindM
  split <;> exact ⟨rfl, rfl, rfl, rfl, rfl⟩
theorem bindTo_over : ∀ {k j : Nat} {ns : List Nd}, k ≤ j → j < ns.length → nth (bindTo k ns) j = nth ns j := by
  intro k
  induction k with
  | zero => intro j ns _ _; rfl
  | succ k ih =>
    intro j ns h hj
    unfold bindTo
    simp only
    split
    · rw [nth_set (by rw [bindTo_len]; exact hj), if_neg (by omega)]
      exact ih (by omega) hj
    · exact ih (by omega) hj
theorem bindTo_same : ∀ {k j : Nat} {ns : List Nd}, j < ns.length → (nth (bindTo k ns) j).outer = (nth ns j).outer ∧ (nth (bindTo k ns) j).within = (nth ns j).within ∧ (nth (bindTo k ns) j).at_ = (nth ns j).at_ ∧ (nth (bindTo k ns) j).named = (nth ns j).named ∧ (nth (bindTo k ns) j).sign = (nth ns j).sign := by
  intro k
  induction k with
  | zero => intro j ns _; exact ⟨rfl, rfl, rfl, rfl, rfl⟩
  | succ k ih =>
    intro j ns hj
    unfold bindTo
    simp only
    split
    · rw [nth_set (by rw [bindTo_len]; exact hj)]
      by_cases e : k = j
      · subst e
        rw [if_pos rfl]
        have := @bindM_same (bindTo k ns) k
        have h2 := @ih k ns hj
        exact ⟨this.1.trans h2.1, this.2.1.trans h2.2.1, this.2.2.1.trans h2.2.2.1, this.2.2.2.1.trans h2.2.2.2.1, this.2.2.2.2.trans h2.2.2.2.2⟩
      · rw [if_neg e]
        exact ih hj
    · exact ih hj
theorem wf_bindTo {ns : List Nd} {k : Nat} (wf : Wf ns) : Wf (bindTo k ns) := by
  refine ⟨fun i hi o e => ?_, fun i hi j hj => ?_⟩
  · rw [bindTo_len] at hi
    rw [(bindTo_same hi).1] at e
    have := wf.out i hi o e
    refine ⟨this.1, ?_⟩
    rw [(bindTo_same (by omega)).2.1]
    exact this.2
  · rw [bindTo_len] at hi ⊢
    rw [(bindTo_same hi).2.1] at hj
    exact wf.win i hi j hj
theorem q_read {C t0 wd : Addr} {E : XK} {ta tb tc td : TE} {σ : L2.St} {H : Hp} {nm ov : V} {at_ lv : Nat} {o : Option Nat} {ws : List Wd} {i : Nat} {D : Ends} {tz : TS} (ha : Ev ta σ H nm) (hb : Ev tb σ H (.int at_)) (hc : Ev tc σ H (.ref wd)) (hd : Ev td σ H ov)
    (hwd : H wd = some (.lst (ws.map fun x => .str (S x)))) (ho : OutV C H ov lv) (hat : at_ < ws.length) (hlen : ws.length ≤ 200) (hxs : ∀ x ∈ ws, x.length ≤ 9000)
    (k0 : readNd ws at_ o lv = none → ∀ H1, Ex H H1 → tz D (σ.set i (some .non)) H1)
    (k1 : ∀ nd, readNd ws at_ o lv = some nd → ∀ (p dx t wi : Addr) (H1 : Hp), Ex H H1 → H p = none → H wi = none → H1 p = some (.ins C dx (nfL t (S nd.sign) (S nd.kind) (S nd.named) ov wi .non nd.level)) → H1 t = some (.tup [nm, .int at_]) → H1 wi = some (.lst []) → tz D (σ.set i (some (.ref p))) H1) :
    tSeq (tAsg (tCall (spRead C) [] E (tCons (tTup (tCons ta (tCons tb tNil))) (tCons tc (tCons td tNil)))) (gName i)) tz D σ H := by
  refine ha H (Ex.refl H) _ fun H1 e1 => hb H1 e1 _ fun H2 e2 => ⟨by show 2 ≤ sizeLine; rw [sizeLine_eq]; omega, fun t ht => ?_⟩
  have x0 : Ex H (upd H2 t (.tup [nm, .int at_])) := (e1.trans e2).trans (ex_put ht (Ex.refl H2))
  have st : (upd H2 t (.tup [nm, .int at_])) t = some (.tup [nm, .int at_]) := upd_same
  refine hc _ x0 _ fun H3 e3 => hd H3 (x0.trans e3) _ fun H4 e4 => ?_
  have x4 := (x0.trans e3).trans e4
  exact ⟨t, wd, nm, at_, ws, ov, o, lv, rfl, e4 _ _ (e3 _ _ st), x4 _ _ hwd, outV_up ho x4, hat, hlen, hxs, fun z H5 e5 => k0 z H5 (x4.trans e5), fun nd z p dx wi H5 e5 hp hw h1 h2 => k1 nd z p dx t wi H5 (x4.trans e5) (fresh_back x4 hp) (fresh_back x4 hw) h1 (e5 _ _ (e4 _ _ (e3 _ _ st))) h2⟩
theorem q_callD {sp : Sp} {dvs vs : List V} {E : XK} {ta : TA} {σ : L2.St} {H : Hp} {D : Ends} {tz : TS} (h : EvA ta σ H vs) (k : ∀ H1, Ex H H1 → sp (vs ++ dvs) H1 (fun _ H2 => tz D σ H2) E) : tSeq (tDrop (tCall sp dvs E ta)) tz D σ H :=
  h H (Ex.refl H) _ fun H1 e1 => k H1 e1
theorem s_callD {sp : Sp} {dvs vs : List V} {E : XK} {ta : TA} {σ : L2.St} {H : Hp} {D : Ends} (h : EvA ta σ H vs) (k : ∀ H1, Ex H H1 → sp (vs ++ dvs) H1 (fun _ H2 => D.nx σ H2) E) : tDrop (tCall sp dvs E ta) D σ H :=
  h H (Ex.refl H) _ fun H1 e1 => k H1 e1
theorem et_truS {K : PySem.W.Frag} {ta : TE} {σ : L2.St} {H : Hp} {x : Wd} (h : Ev ta σ H (.str (S x))) (hl : x.length ≤ 9000) : EvT (fun σ H Q => ta σ H fun x H' => ∃ k, TruV K x H' k ∧ Q k H') σ H (decide (x ≠ [])) :=
  fun H1 e Q q => h H1 e _ fun H2 e2 => ⟨decide (x ≠ []), ⟨by rw [S_len, sizeLine_eq]; omega, by rw [S_len]; cases x <;> simp; omega⟩, q H2 e2⟩
/-- the state of the reading at a turn -/
structure LI (C : Addr) (nm : V) (ws : List Wd) (res : Option (List Nd × List Nat)) (H0 G : Hp) (nl wl : Addr) (rs : List Rec) (ns : List Nd) (wt : List Nat) (at_ : Nat) : Prop where
  fu : ∃ f, ws.length - at_ < f ∧ loopM ws f ns wt at_ = res
  nds : Nds C nm rs ns G
  wf : Wf ns
  bn : ∀ i, i < ns.length → (nth ns i).binder = none
  wti : ∀ j ∈ wt, j < ns.length
  wtl : wt.length ≤ ns.length
  wil : ∀ i, i < ns.length → (nth ns i).within.length ≤ ns.length
  nle : ns.length ≤ at_
  atl : at_ ≤ ws.length + 1
  gn : G nl = some (.lst (refs rs (List.range ns.length)))
  gw : G wl = some (.lst (refs rs wt))
  ne : nl ≠ wl
  nw : ∀ i, i < ns.length → (R rs i).w ≠ wl ∧ (R rs i).w ≠ nl
  ex : Ex H0 G
  f1 : H0 nl = none
  f2 : H0 wl = none
  f3 : ∀ i, i < ns.length → H0 (R rs i).a = none ∧ H0 (R rs i).w = none
theorem LI.outV {C : Addr} {nm : V} {ws : List Wd} {res : Option (List Nd × List Nat)} {H0 G : Hp} {nl wl : Addr} {rs : List Rec} {ns : List Nd} {wt : List Nat} {at_ : Nat} (h : LI C nm ws res H0 G nl wl rs ns wt at_) : OutV C G (oref rs wt.getLast?) (lvlOf ns wt.getLast? : Nat) := by
  cases z : wt.getLast? with
  | none => exact .inl ⟨rfl, rfl⟩
  | some o =>
    have ho := h.wti o (List.mem_of_getLast? z)
    exact .inr ⟨(R rs o).a, _, _, (nth ns o).level, rfl, (h.nds.at_ o ho).ins, rfl, by show ((_ + 1 : Nat) : Int) = _; push_cast; rfl⟩
section
variable {P : Program} {w : World} {K : PySem.W.Frag} {mg : Str → Option Value} {base : Heap} {f : Addr} {fd : FuncData}
def spExpr (C : Addr) : Sp := fun vs H Q _ => ∃ (wd : Addr) (nm : V) (ws : List Wd) (start : Nat), vs = [nm, .ref wd, .int start] ∧ H wd = some (.lst (ws.map fun x => .str (S x))) ∧ ws.length ≤ 200 ∧ (∀ x ∈ ws, x.length ≤ 9000) ∧ start ≤ ws.length + 1 ∧
  (readExpr ws start = none → ∀ H', Ex H H' → Q .non H') ∧
  ∀ ns, readExpr ws start = some ns → ∀ (rs : List Rec) (nl : Addr) (H' : Hp), Ex H H' → Nds C nm rs ns H' → H nl = none → H' nl = some (.lst (refs rs (List.range ns.length))) → (∀ i, i < ns.length → H (R rs i).w = none) → ns.length ≤ 300 → Q (.ref nl) H'
abbrev nE : List Str := ["name", "words", "start", "nodes", "waiting", "at", "outer", "node"]
theorem scE : FnScope nE ["name", "words", "start"] (C8.fnScope (top 22)) := C8.fnScope_by (by decide +kernel)
theorem ok_expr {C : Addr} (F : C8.Def K mg "read_expression" (top 22) f fd) (b : Binds K fd ["name", "words", "start"] []) (T : Txt2 K w mg) (N : NodeC K mg C) (cR : C8.Cal P w K mg base 3 "read_node" (spRead C) []) (cH : C8.Cal P w K mg base 1 "hang" (spHang C) [])
    (cB : C8.Cal P w K mg base 1 "bind" (spBind C) []) : C8.Cal P w K mg base 4 "read_expression" (spExpr C) [] := by
  refine C8.cal0 F b .nil scE (fun vs H Q E h => by obtain ⟨wd, nm, ws, start, rfl, _⟩ := h; rfl) (fun cdv A outer s H vs Q E hr h => ?_)
  obtain ⟨wd, nm, ws, start, rfl, hwd, hlen, hxs, hst, k0, k1⟩ := h
  refine ⟨_, pss_cons (ps_set (i := 3) scE.nd rfl (Or.inl rfl) (pe_lst pa_nil)) (pss_cons (ps_set (i := 4) scE.nd rfl (Or.inl rfl) (pe_lst pa_nil)) (pss_cons (ps_set (i := 5) scE.nd rfl (Or.inl rfl) (pv 2))
    (pss_cons (ps_while PassesOwn.never (pt_cmpR op_lt (pv 5) (pe_callB call_len_seq (by rfl) T.len_ boot_len (pa_cons (pv 1) pa_nil)) (nomark _))
      (pss_cons (ps_set (i := 6) scE.nd rfl (Or.inl rfl) (pe_ifExp (pt_truth (pv 4) (by intro _; rfl)) (pe_ix ix_list (pv 4) (pe_un un_neg pe_int) (fun _ _ => rfl)) pe_non))
      (pss_cons (ps_set (i := 7) scE.nd rfl (Or.inl rfl) (C8.pe_c cR hr (by decide) (by rfl) (pa_cons (pe_tup (pa_cons (pv 0) (pa_cons (pv 5) pa_nil))) (pa_cons (pv 1) (pa_cons (pv 6) pa_nil)))))
      (pss_cons (ps_if (pw_or (pt_cmp (pc_isN (pv 7))) (pw_or1 (pw_and (pt_truth (pv 3) (by intro _; rfl)) (pw_and1 (pt_cmp (pc_isN (pv 6))))).pt)).pt (pss_one (ps_ret pe_non)) pss_nil)
      (pss_cons (ps_expr (pe_bm PySem.F.plainAttrs_list PySem.F.slot_list_append PySem.F.type_list_append mt_append (pv 3) (pa_cons (pv 7) pa_nil)))
      (pss_cons (ps_expr (C8.pe_c cH hr (by decide) (by rfl) (pa_cons (pv 7) (pa_cons (pv 4) pa_nil))))
      (pss_one (ps_set (i := 5) scE.nd rfl (Or.inl rfl) (pe_ifExp (pt_truth (pe_fld (pv 7) rfl) (by intro _; rfl)) (pe_op op_add (pv 5) pe_int) (pe_op op_add (pv 5) pe_int))))))))))
    (pss_cons (ps_if (pw_or (pt_truth (pv 4) (by intro _; rfl)) (pw_or1 (pt_not (pt_truth (pv 3) (by intro _; rfl))))).pt (pss_one (ps_ret pe_non)) pss_nil)
    (pss_cons (ps_for PassesOwn.never rfl (pi_list (pv 3)) (pg_name (i := 7) scE.nd rfl (Or.inl rfl)) (pss_one (ps_if (pt_cmpR op_eq (pe_fld (pv 7) rfl) pe_str (nomark _)) (pss_one (ps_expr (C8.pe_c cB hr (by decide) (by rfl) (pa_cons (pv 7) pa_nil)))) pss_nil)))
    (pss_one (ps_ret (pv 3))))))))
    , ?_⟩
  refine ⟨(by show 0 ≤ sizeLine; decide), fun nl hnl => ?_⟩
  refine ⟨(by show 0 ≤ sizeLine; decide), fun wl hwl0 => ?_⟩
  have nwl : nl ≠ wl := fun z => by rw [← z, upd_same] at hwl0; cases hwl0
  have hwl : H wl = none := (upd_ne nwl.symm).symm.trans hwl0
  have ex0 : Ex H (upd (upd H nl (.lst [])) wl (.lst [])) := ex_put hwl (ex_put hnl (Ex.refl H))
  refine q_asg (v := .int start) (ev_var rfl) fun H1 e1 => ?_
  generalize hres : loopM ws (ws.length + 1) [] [] start = res
  have hres0 : res = none → readExpr ws start = none := fun z => by
    unfold readExpr
    rw [hres, z]
  have hres1 : ∀ ns wt, res = some (ns, wt) → readExpr ws start = if wt ≠ [] ∨ ns = [] then none else some (bindTo ns.length ns) := fun ns wt z => by
    unfold readExpr
    rw [hres, z]
  refine q_while (fun m σ G => ∃ (rs : List Rec) (ns : List Nd) (wt : List Nat) (at_ : Nat) (x y : Option V), m = ws.length + 1 - at_ ∧ σ = [some nm, some (.ref wd), some (.int start), some (.ref nl), some (.ref wl), some (.int at_), x, y] ∧ LI C nm ws res H G nl wl rs ns wt at_) (ws.length + 1 - start) ?_ ?_
  · refine ⟨[], [], [], start, none, none, rfl, rfl, ?_⟩
    exact { fu := ⟨ws.length + 1, by omega, hres⟩
            nds := ⟨rfl, fun i hi => by simp at hi, fun i j hi => by simp at hi, fun i j hi => by simp at hi⟩
            wf := ⟨fun i hi => by simp at hi, fun i hi => by simp at hi⟩
            bn := fun i hi => by simp at hi
            wti := fun j hj => by cases hj
            wtl := Nat.le_refl _
            wil := fun i hi => by simp at hi
            nle := Nat.zero_le _
            atl := hst
            gn := e1 _ _ ((upd_ne nwl).trans upd_same)
            gw := e1 _ _ upd_same
            ne := nwl
            nw := fun i hi => by simp at hi
            ex := ex0.trans e1
            f1 := hnl
            f2 := hwl
            f3 := fun i hi => by simp at hi }
  · rintro m σ' G ⟨rs, ns, wt, at_, x, y, rfl, rfl, h⟩
    have hl := h.nds.len
    have gwd := h.ex _ _ hwd
    refine ⟨decide (at_ < ws.length), et_is (et_test (ev_op (ev_var rfl) (ev_len (ev_var rfl) (sq_of gwd)) rv_I0)) (by simp), fun hb H2 e2 => ?_, fun hb H2 e2 => ?_⟩
    · have hat : at_ < ws.length := of_decide_eq_true hb
      obtain ⟨fu, hf, hlm⟩ := h.fu
      obtain ⟨g, rfl⟩ : ∃ g, fu = g + 1 := ⟨fu - 1, by omega⟩
      unfold loopM at hlm
      rw [if_pos hat] at hlm
      refine ⟨_, fun _ _ z => z, ?_⟩
      refine q_asg (v := oref rs wt.getLast?) ?_ fun H3 e3 => ?_
      · cases z : wt.getLast? with
        | none =>
          have hz : wt = [] := by rwa [List.getLast?_eq_none_iff] at z
          exact ev_if (b := false) (et_is (et_truL (ev_var rfl) (sq_of (e2 _ _ h.gw))) (by rw [hz]; rfl)) (fun z => by cases z) fun _ => ev_c
        | some o =>
          have he : (!(refs rs wt).isEmpty) = true := by
            cases wt with
            | nil => cases z
            | cons a b => rfl
          exact ev_if (b := true) (et_is (et_truL (ev_var rfl) (sq_of (e2 _ _ h.gw))) he) (fun _ => ev_op (ev_var rfl) (ev_un ev_c ru_neg) (rv_ixL (sq_of (e2 _ _ h.gw)) (atI_last (by rw [getLast_refs, z]; rfl)))) fun z => by cases z
      · have e23 := e2.trans e3
        refine q_read (o := wt.getLast?) (lv := lvlOf ns wt.getLast?) (ov := oref rs wt.getLast?) (at_ := at_) (nm := nm) (wd := wd) (t0 := 0) (ws := ws) (ev_var rfl) (ev_var rfl) (ev_var rfl) (ev_var rfl) (e23 _ _ gwd) (outV_up h.outV e23) hat hlen hxs (fun hrd H4 e4 => ?_) (fun nd hrd p dx t wi H4 e4 hp0 hw0 hp4 ht4 hw4 => ?_)
        · rw [hrd] at hlm
          refine q_when (b := true) (et_is (et_or (a := true) (b := true) (et_in (ev_var rfl)) fun z => (by cases z)) rfl) (fun _ H5 e5 => ?_) (fun z => (by cases z))
          exact s_ret ev_c fun H6 e6 => k0 (hres0 hlm.symm) H6 ((((h.ex.trans e23).trans e4).trans e5).trans e6)
        · rw [hrd] at hlm
          dsimp only at hlm
          obtain ⟨fnm, fou, fwi, fbi, fat, flv⟩ := readNd_facts hrd
          have hp := fresh_back e23 hp0
          have hw := fresh_back e23 hw0
          have e24 := e23.trans e4
          have pne : p ≠ wi := fun z => by rw [z, hw4] at hp4; cases hp4
          have fa : ∀ i, i < ns.length → (R rs i).a ≠ p := fun i hi z => by have := (h.nds.at_ i hi).ins; rw [z, hp] at this; cases this
          have fw : ∀ i, i < ns.length → (R rs i).w ≠ wi := fun i hi z => by have := (h.nds.at_ i hi).win; rw [z, hw] at this; cases this
          have wiwl : wi ≠ wl := fun z => by have := h.gw; rw [← z, hw] at this; cases this
          have winl : wi ≠ nl := fun z => by have := h.gn; rw [← z, hw] at this; cases this
          have hpr : Option.map (fun _ => ()) (some p) = some () := rfl
          have v7 : ∀ {a0 a1 a2 a3 a4 a5 a6 : Option V} {J : Hp}, Ev (tVar 7) ([a0, a1, a2, a3, a4, a5, a6, some (.ref p)] : L2.St) J (.ref p) := ev_var rfl
          have v6 : Ev (tVar 6) ([some nm, some (.ref wd), some (.int start), some (.ref nl), some (.ref wl), some (.int at_), some (oref rs wt.getLast?), some (.ref p)] : L2.St) H4 (oref rs wt.getLast?) := ev_var rfl
          have c6 : EvT (tB (tIsN (tVar 6))) ([some nm, some (.ref wd), some (.int start), some (.ref nl), some (.ref wl), some (.int at_), some (oref rs wt.getLast?), some (.ref p)] : L2.St) H4 (decide (wt.getLast? = none)) := by
            cases z : wt.getLast? with
            | none => rw [z] at v6; exact et_in v6
            | some o => rw [z] at v6; exact et_ir v6
          have c3 : (!(refs rs (List.range ns.length)).isEmpty) = decide (ns ≠ []) := by
            cases ns with
            | nil => rfl
            | cons a b => simp [refs]
          refine q_when (b := decide (ns ≠ [] ∧ wt.getLast? = none)) (et_is (et_or (a := false) (b := decide (ns ≠ []) && decide (wt.getLast? = none)) (et_ir v7) fun _ => et_and (et_is (et_truL (ev_var rfl) (sq_of (e24 _ _ h.gn))) c3) fun _ => c6) (by simp)) (fun hbb H5 e5 => ?_) (fun hbb H5 e5 => ?_)
          · rw [if_pos (of_decide_eq_true hbb)] at hlm
            exact s_ret ev_c fun H6 e6 => k0 (hres0 hlm.symm) H6 (((h.ex.trans e24).trans e5).trans e6)
          · rw [if_neg (of_decide_eq_false hbb)] at hlm
            have e25 := e24.trans e5
            have hn : ns.length ≤ 201 := by have := h.nle; have := h.atl; omega
            refine q_app (e25 _ _ h.gn) (ev_var rfl) v7 (by unfold refs; rw [List.length_map, List.length_range]; omega) fun H6 e6 => ?_
            refine q_callD (ea_cons v7 (ea_cons (ev_var rfl) ea_nil)) fun H7 e7 => ?_
            have e26 := e25.trans e6
            have rec_ : NodeAt C nm rs H4 ⟨p, dx, t, wi⟩ nd := ⟨by rw [fou, fbi, flv]; rw [flv] at hp4; exact hp4, by rw [fat]; exact ht4, by rw [fwi]; exact hw4⟩
            have N4 : Nds C nm (rs ++ [⟨p, dx, t, wi⟩]) (ns ++ [nd]) H4 := (h.nds.ex e24).add h.wf h.bn nd _ rec_ (fun j e => h.wti j (List.mem_of_getLast? (fou ▸ e))) fbi fwi fa fw
            have rn : R (rs ++ [⟨p, dx, t, wi⟩]) ns.length = ⟨p, dx, t, wi⟩ := by rw [← hl]; exact R_new
            have ro : ∀ i, i < ns.length → R (rs ++ [⟨p, dx, t, wi⟩]) i = R rs i := fun i hi => R_app (hl ▸ hi)
            have nw' : ∀ i, i < ns.length + 1 → (R (rs ++ [⟨p, dx, t, wi⟩]) i).w ≠ wl ∧ (R (rs ++ [⟨p, dx, t, wi⟩]) i).w ≠ nl := fun i hi => by
              by_cases z : i < ns.length
              · rw [ro i z]; exact h.nw i z
              · have : i = ns.length := by omega
                rw [this, rn]
                exact ⟨wiwl, winl⟩
            have ll : (ns ++ [nd]).length = ns.length + 1 := by simp
            have N6 := ((N4.ex (e5.trans e6)).other (ys := refs rs (List.range ns.length) ++ [.ref p]) (e26 _ _ h.gn) fun i hi => (nw' i (ll ▸ hi)).2).ex e7
            have gw6 : (upd H6 nl (.lst (refs rs (List.range ns.length) ++ [.ref p]))) wl = some (.lst (refs rs wt)) := (upd_ne h.ne.symm).trans (e26 _ _ h.gw)
            have gn6 : (upd H6 nl (.lst (refs rs (List.range ns.length) ++ [.ref p]))) nl = some (.lst (refs rs (List.range ns.length) ++ [.ref p])) := upd_same
            refine ⟨nm, rs ++ [⟨p, dx, t, wi⟩], ns ++ [nd], wt, ns.length, wl, by rw [rn]; rfl, N6, by rw [ll]; omega, fun j hj => by have := h.wti j hj; omega, ?_, fun j hj => (nw' j (ll ▸ hj)).1, by have := h.wtl; omega, fun j hj => ?_, fun H8 N8 w8 K8 => ?_⟩
            · rw [refs_app fun j hj => by have := h.wti j hj; omega]
              exact e7 _ _ gw6
            · by_cases z : j < ns.length
              · rw [nth_app z]; have := h.wil j z; omega
              · have : j = ns.length := by omega
                rw [this, nth_new, fwi]
                simp
            · have l8 : (hangM (ns ++ [nd]) wt ns.length).1.length = ns.length + 1 := by
                show (addIn _ _ _).length = _
                rw [addIn_len, ll]
              have n8 : ∀ j, j < ns.length + 1 → nth (hangM (ns ++ [nd]) wt ns.length).1 j = if wt.getLast? = some j then { nth (ns ++ [nd]) j with within := (nth (ns ++ [nd]) j).within ++ [ns.length] } else nth (ns ++ [nd]) j := fun j hj => addIn_nth (by rw [ll]; exact hj)
              have nn8 : nth (hangM (ns ++ [nd]) wt ns.length).1 ns.length = nd := by
                rw [n8 _ (by omega), nth_new, if_neg]
                intro z
                have := h.wti _ (List.mem_of_getLast? z)
                omega
              have i8 := (N8.at_ ns.length (by rw [l8]; omega)).ins
              rw [nn8, rn] at i8
              have at8 : ∀ {z : Bool}, z = decide (nd.named ≠ []) → V.int (if z = true then ((at_ + 2 : Nat) : Int) else ((at_ + 1 : Nat) : Int)) = V.int ((if nd.named ≠ [] then at_ + 2 else at_ + 1 : Nat) : Int) := fun e => by
                subst e
                by_cases q : nd.named = []
                · simp [q]
                · simp [q]
              have atE : Ev (tIf (fun σ H Q => (tFld K (tVar 7) "named") σ H fun x H' => ∃ k, TruV K x H' k ∧ Q k H') (tOp (rI0 fun i j => V.int (i + j)) (tVar 5) (tC (V.int 2))) (tOp (rI0 fun i j => V.int (i + j)) (tVar 5) (tC (V.int 1)))) ([some nm, some (.ref wd), some (.int start), some (.ref nl), some (.ref wl), some (.int at_), some (oref rs wt.getLast?), some (.ref p)] : L2.St) H8 (.int ((if nd.named ≠ [] then at_ + 2 else at_ + 1 : Nat) : Int)) := by
                refine ev_if (b := decide (nd.named ≠ [])) (et_truS (ev_fld v7 i8 N.cl N.n4 rfl) (by omega)) (fun q => ?_) (fun q => ?_)
                · rw [if_pos (of_decide_eq_true q)]
                  exact ev_is (ev_op (ev_var rfl) ev_c rv_I0) (by push_cast; rfl)
                · rw [if_neg (of_decide_eq_false q)]
                  exact ev_is (ev_op (ev_var rfl) ev_c rv_I0) (by push_cast; rfl)
              refine s_asg atE fun H9 e9 => ?_
              generalize hat' : (if nd.named ≠ [] then at_ + 2 else at_ + 1) = at' at hlm
              have hat1 : at_ + 1 ≤ at' ∧ at' ≤ at_ + 2 := by rw [← hat']; split <;> omega
              refine ⟨ws.length + 1 - at', by omega, rs ++ [⟨p, dx, t, wi⟩], (hangM (ns ++ [nd]) wt ns.length).1, (hangM (ns ++ [nd]) wt ns.length).2, at', _, _, rfl, rfl, ?_⟩
              have x7 : Ex H H7 := by
                intro c o hc
                have c1 : c ≠ nl := fun z => by rw [z, h.f1] at hc; cases hc
                exact e7 _ _ ((upd_ne c1).trans (e26 _ _ (h.ex _ _ hc)))
              have hp00 : H p = none := fresh_back h.ex hp
              have hw00 : H wi = none := fresh_back h.ex hw
              exact { fu := ⟨g, by omega, hlm⟩
                      nds := N8.ex e9
                      wf := wf_hang h.wf h.wti fou fwi
                      bn := fun i hi => by
                        rw [l8] at hi
                        have b0 : (nth (ns ++ [nd]) i).binder = none := by
                          by_cases z : i < ns.length
                          · rw [nth_app z]; exact h.bn i z
                          · have : i = ns.length := by omega
                            rw [this, nth_new]; exact fbi
                        rw [n8 i hi]
                        split <;> exact b0
                      wti := fun j hj => by
                        rw [l8]
                        have := popM_sub j hj
                        rw [List.mem_append] at this
                        rcases this with q | q
                        · have := h.wti j q; omega
                        · simp at q; omega
                      wtl := by
                        rw [l8]
                        refine Nat.le_trans popM_le ?_
                        simp
                        exact h.wtl
                      wil := fun i hi => by
                        rw [l8] at hi ⊢
                        have b0 : (nth (ns ++ [nd]) i).within.length ≤ ns.length := by
                          by_cases z : i < ns.length
                          · rw [nth_app z]; exact h.wil i z
                          · have : i = ns.length := by omega
                            rw [this, nth_new, fwi]; simp
                        rw [n8 i hi]
                        split
                        · rw [List.length_append]; simp; exact b0
                        · omega
                      nle := by rw [l8]; have := h.nle; omega
                      atl := by omega
                      gn := by
                        rw [l8]
                        refine e9 _ _ (K8 _ _ ?_ ?_)
                        · rintro (z | ⟨j, hj, z⟩)
                          · exact h.ne z
                          · exact (nw' j (ll ▸ hj)).2 z.symm
                        · refine (e7 _ _ gn6).trans ?_
                          rw [List.range_succ]
                          have r1 : refs (rs ++ [⟨p, dx, t, wi⟩]) (List.range ns.length) = refs rs (List.range ns.length) := refs_app fun j hj => by rw [List.mem_range] at hj; omega
                          unfold refs at r1 ⊢
                          rw [List.map_append, r1]
                          show _ = some (HO.lst (_ ++ [V.ref (R (rs ++ [⟨p, dx, t, wi⟩]) ns.length).a]))
                          rw [rn]
                      gw := e9 _ _ w8
                      ne := h.ne
                      nw := fun i hi => nw' i (l8 ▸ hi)
                      ex := fun c o hc => e9 _ _ (K8 c o (by
                        rintro (z | ⟨j, hj, z⟩)
                        · rw [z, h.f2] at hc; cases hc
                        · rw [ll] at hj
                          by_cases q : j < ns.length
                          · rw [ro j q] at z
                            rw [z, (h.f3 j q).2] at hc; cases hc
                          · have : j = ns.length := by omega
                            rw [this, rn] at z
                            rw [z, hw00] at hc; cases hc) (x7 c o hc))
                      f1 := h.f1
                      f2 := h.f2
                      f3 := fun i hi => by
                        rw [l8] at hi
                        by_cases q : i < ns.length
                        · rw [ro i q]; exact h.f3 i q
                        · have : i = ns.length := by omega
                          rw [this, rn]; exact ⟨hp00, hw00⟩ }
    · have hat : ¬ at_ < ws.length := of_decide_eq_false hb
      obtain ⟨fu, hf, hlm⟩ := h.fu
      obtain ⟨g, rfl⟩ : ∃ g, fu = g + 1 := ⟨fu - 1, by omega⟩
      unfold loopM at hlm
      rw [if_neg hat] at hlm
      have hrx := hres1 ns wt hlm.symm
      have hn : ns.length ≤ 201 := by have := h.nle; have := h.atl; omega
      have c4 : (!(refs rs wt).isEmpty) = decide (wt ≠ []) := by
        cases wt with
        | nil => rfl
        | cons a b => simp [refs]
      have c3 : (!(refs rs (List.range ns.length)).isEmpty) = decide (ns ≠ []) := by
        cases ns with
        | nil => rfl
        | cons a b => simp [refs]
      refine q_when (b := decide (wt ≠ [] ∨ ns = [])) (et_is (et_or (a := decide (wt ≠ [])) (b := !decide (ns ≠ [])) (et_is (et_truL (ev_var rfl) (sq_of (e2 _ _ h.gw))) c4) fun _ => et_not (et_is (et_truL (ev_var rfl) (sq_of (e2 _ _ h.gn))) c3)) (by simp)) (fun hbb H3 e3 => ?_) (fun hbb H3 e3 => ?_)
      · rw [if_pos (of_decide_eq_true hbb)] at hrx
        exact s_ret ev_c fun H4 e4 => k0 hrx H4 (((h.ex.trans e2).trans e3).trans e4)
      · rw [if_neg (of_decide_eq_false hbb)] at hrx
        have e23 := e2.trans e3
        have gn3 := e23 _ _ h.gn
        refine q_forL (K := K) (a := nl) (xs := refs rs (List.range ns.length)) (ev_var rfl) (sq_of gn3) (fun i σ G' => (∃ z, σ = [some nm, some (.ref wd), some (.int start), some (.ref nl), some (.ref wl), some (.int at_), x, z]) ∧ Nds C nm rs (bindTo i ns) G' ∧ G' nl = some (.lst (refs rs (List.range ns.length))) ∧ Keep (fun c => ∃ j, j < ns.length ∧ c = (R rs j).a) H G') (fun H4 e4 => ?_) (fun i σ G' _ hp => sq_of hp.2.2.1) (fun i v σ G' hv hp => ?_) (fun σ G' hp => ?_)
        · exact ⟨⟨_, rfl⟩, h.nds.ex (e23.trans e4), e4 _ _ gn3, Keep.of ((h.ex.trans e23).trans e4)⟩
        · obtain ⟨⟨z, rfl⟩, hN, hG, hK⟩ := hp
          have hi : i < ns.length := by
            have := (List.getElem?_eq_some_iff.mp hv).1
            unfold refs at this
            rw [List.length_map, List.length_range] at this
            exact this
          have hv2 : v = .ref (R rs i).a := by
            unfold refs at hv
            rw [List.getElem?_map, List.getElem?_range hi] at hv
            exact (Option.some.inj hv).symm
          subst hv2
          have hib : i < (bindTo i ns).length := by rw [bindTo_len]; exact hi
          have n := (hN.at_ i hib).ins
          have v7 : ∀ {a0 a1 a2 a3 a4 a5 a6 : Option V} {J : Hp}, Ev (tVar 7) ([a0, a1, a2, a3, a4, a5, a6, some (.ref (R rs i).a)] : L2.St) J (.ref (R rs i).a) := ev_var rfl
          have bs : bindTo (i + 1) ns = if (nth (bindTo i ns) i).kind = [110, 97, 109, 101] then (bindTo i ns).set i (Mi.bindM (bindTo i ns) i) else bindTo i ns := rfl
          have ln : (Str.ofString "name" : Str) = S [110, 97, 109, 101] := by decide
          refine s_when (b := decide ((nth (bindTo i ns) i).kind = [110, 97, 109, 101])) (et_is (et_test (ev_op (ev_fld v7 n N.cl N.n3 rfl) ev_c (rv_eq rfl))) (by rw [ln]; exact S_eqc)) (fun hbk H4 e4 => ?_) (fun hbk H4 e4 => ?_)
          · rw [if_pos (of_decide_eq_true hbk)] at bs
            refine s_callD (ea_cons v7 ea_nil) fun H5 e5 => ?_
            refine ⟨nm, rs, bindTo i ns, i, rfl, hN.ex (e4.trans e5), wf_bindTo h.wf, hib, ?_, fun H6 N6 K6 => ⟨⟨_, rfl⟩, by rw [bs]; exact N6, ?_, ?_⟩⟩
            · rw [bindTo_over (Nat.le_refl _) hi]
              exact h.bn i hi
            · refine K6 _ _ (fun z => ?_) (e5 _ _ (e4 _ _ hG))
              rw [z, n] at hG
              cases hG
            · refine fun c o nc hc => K6 _ _ (fun z => nc ⟨i, hi, z⟩) (e5 _ _ (e4 _ _ (hK c o nc hc)))
          · rw [if_neg (of_decide_eq_false hbk)] at bs
            exact ⟨⟨_, rfl⟩, by rw [bs]; exact hN.ex e4, e4 _ _ hG, hK.ex e4⟩
        · obtain ⟨⟨z, rfl⟩, hN, hG, hK⟩ := hp
          have lx : (refs rs (List.range ns.length)).length = ns.length := by unfold refs; rw [List.length_map, List.length_range]
          rw [lx] at hN
          have bl : (bindTo ns.length ns).length = ns.length := bindTo_len
          refine s_ret (ev_var rfl) fun H4 e4 => k1 _ hrx rs nl H4 (fun c o hc => e4 _ _ (hK c o ?_ hc)) (hN.ex e4) hnl (by rw [bl]; exact e4 _ _ hG) (fun i hi => (h.f3 i (bl ▸ hi)).2) (by rw [bl]; omega)
          rintro ⟨j, hj, rfl⟩
          rw [(h.f3 j hj).1] at hc
          cases hc
end
end K5
set_option Elab.async false
set_option linter.all false
set_option maxRecDepth 100000
set_option maxHeartbeats 4000000
namespace K5
open PySem PySem.Spec PyProof.Rows L2 Evl Xl SX Mi
theorem spl_ne : ∀ {s : Wd} {t : List Nat} {k : Nat} {x : Wd}, TL.spl s k x t ≠ [] := by
  intro s t
  induction t with
  | nil => intro k x; rw [TL.spl.eq_1]; simp
  | cons c r ih =>
    intro k x
    cases k with
    | zero =>
      rw [TL.spl.eq_2]
      split
      · simp
      · exact ih
    | succ k => rw [TL.spl.eq_3]; exact ih
theorem spl_len : ∀ {s : Wd} {t : List Nat} {k : Nat} {x : Wd}, (TL.spl s k x t).length ≤ t.length + 1 ∧ ∀ y ∈ TL.spl s k x t, y.length ≤ x.length + t.length := by
  intro s t
  induction t with
  | nil => intro k x; rw [TL.spl.eq_1]; simp
  | cons c r ih =>
    intro k x
    cases k with
    | zero =>
      rw [TL.spl.eq_2]
      split
      · have h := @ih (s.length - 1) []
        refine ⟨by simp only [List.length_cons]; omega, fun y hy => ?_⟩
        rcases List.mem_cons.mp hy with z | z
        · rw [z]; omega
        · have := h.2 y z
          simp only [List.length_cons, List.length_nil] at this ⊢
          omega
      · have h := @ih 0 (x ++ [c])
        refine ⟨by simp only [List.length_cons]; omega, fun y hy => ?_⟩
        have := h.2 y hy
        simp only [List.length_append, List.length_cons, List.length_nil] at this ⊢
        omega
    | succ k =>
      rw [TL.spl.eq_3]
      have h := @ih k x
      refine ⟨by simp only [List.length_cons]; omega, fun y hy => ?_⟩
      have := h.2 y hy
      simp only [List.length_cons]
      omega
theorem addIn_named {ns : List Nd} {wt : List Nat} {i : Nat} (h : ∀ j, j < ns.length → (nth ns j).named.length ≤ 8) : ∀ j, j < (addIn ns wt i).length → (nth (addIn ns wt i) j).named.length ≤ 8 := by
  intro j hj
  rw [addIn_len] at hj
  rw [addIn_nth hj]
  split <;> exact h j hj
theorem loopM_named {ws : List Wd} : ∀ {f : Nat} {ns : List Nd} {wt : List Nat} {at_ : Nat} {ns' : List Nd} {wt' : List Nat}, loopM ws f ns wt at_ = some (ns', wt') → (∀ j, j < ns.length → (nth ns j).named.length ≤ 8) → ∀ j, j < ns'.length → (nth ns' j).named.length ≤ 8 := by
  intro f
  induction f with
  | zero => intro ns wt at_ ns' wt' e h; cases e; exact h
  | succ f ih =>
    intro ns wt at_ ns' wt' e h
    unfold loopM at e
    by_cases hat : at_ < ws.length
    · rw [if_pos hat] at e
      cases hr : readNd ws at_ wt.getLast? (lvlOf ns wt.getLast?) with
      | none => rw [hr] at e; cases e
      | some nd =>
        rw [hr] at e
        dsimp only at e
        by_cases hb : ns ≠ [] ∧ wt.getLast? = none
        · rw [if_pos hb] at e; cases e
        · rw [if_neg hb] at e
          refine ih e (addIn_named fun j hj => ?_)
          by_cases z : j < ns.length
          · rw [nth_app z]; exact h j z
          · have : j = ns.length := by simp at hj; omega
            rw [this, nth_new]
            exact (readNd_facts hr).1
    · rw [if_neg hat] at e
      cases e
      exact h
theorem readExpr_named {ws : List Wd} {st : Nat} {ns : List Nd} (h : readExpr ws st = some ns) : ∀ j, j < ns.length → (nth ns j).named.length ≤ 8 := by
  unfold readExpr at h
  cases hl : loopM ws (ws.length + 1) [] [] st with
  | none => rw [hl] at h; cases h
  | some q =>
    obtain ⟨ns', wt⟩ := q
    rw [hl] at h
    dsimp only at h
    by_cases z : wt ≠ [] ∨ ns' = []
    · rw [if_pos z] at h; cases h
    · rw [if_neg z] at h
      cases h
      intro j hj
      rw [bindTo_len] at hj
      rw [(bindTo_same hj).2.2.2.1]
      exact loopM_named hl (fun j hj => by simp at hj) j hj
theorem nds_range {ns : List Nd} : ns = (List.range ns.length).map (nth ns) := by
  refine List.ext_getElem (by simp) fun i h1 h2 => ?_
  unfold nth
  simp [List.getD_eq_getElem?_getD, h1]
theorem names_given {l : Ln} : l.names.map (fun x => V.str (S x)) = given l.nodes.length (fun i => decide ((nth l.nodes i).named ≠ [])) (fun i => .str (S (nth l.nodes i).named)) := by
  unfold Ln.names given
  conv => lhs; rw [nds_range (ns := l.nodes)]
  rw [List.filter_map, List.map_map, List.map_map]
  rfl
theorem s_fldL {K : PySem.W.Frag} {ta te : TE} {σ : L2.St} {H : Hp} {f : Str} {a C dx : Addr} {fs : List (Str × V)} {xs : List V} {D : Ends} (ha : H a = some (.ins C dx fs)) (h0 : Ev ta σ H (.ref a)) (h : EvL te σ H xs) (hc : Cls K C) (hn : NoAttr K C f) (hl : fs.length < 1000)
    (k : ∀ q H1, H q = none → Ex H H1 → H1 q = some (.lst xs) → D.nx σ (upd H1 a (.ins C dx (putF f (.ref q) fs)))) : sFld K ta te f D σ H :=
  h H (Ex.refl H) _ fun q H1 hq e1 hq1 => h0 H1 e1 _ fun H2 e2 => ⟨a, C, dx, fs, rfl, e2 _ _ (e1 _ _ ha), hc, hn, hl, k q H2 hq (e1.trans e2) (e2 _ _ hq1)⟩
structure LRec where
  a : Addr
  dx : Addr
  nl : Addr
  nm : Addr
  rs : List Rec
  deriving Inhabited
def lnF (name told : Str) (nl nm : Addr) : List (Str × V) := [("name", .str name), ("told", .str told), ("nodes", .ref nl), ("names", .ref nm)]
structure LineAt (CL C : Addr) (H : Hp) (r : LRec) (l : Ln) : Prop where
  ins : H r.a = some (.ins CL r.dx (lnF (S l.name) (S l.told) r.nl r.nm))
  nds : Nds C (.str (S l.name)) r.rs l.nodes H
  nl : H r.nl = some (.lst (refs r.rs (List.range l.nodes.length)))
  nm : H r.nm = some (.lst (l.names.map fun x => .str (S x)))
  bd : l.nodes.length ≤ 300
theorem LineAt.ex {CL C : Addr} {H H' : Hp} {r : LRec} {l : Ln} (h : LineAt CL C H r l) (e : Ex H H') : LineAt CL C H' r l := ⟨e _ _ h.ins, h.nds.ex e, e _ _ h.nl, e _ _ h.nm, h.bd⟩
structure LineC (K : PySem.W.Frag) (mg : Str → Option Value) (C : Addr) : Prop where
  cl : Cls K C
  mgC : mg "Line" = some (.ref C)
  n1 : NoAttr K C "name"
  n2 : NoAttr K C "told"
  n3 : NoAttr K C "nodes"
  n4 : NoAttr K C "names"
section
variable {P : Program} {w : World} {K : PySem.W.Frag} {mg : Str → Option Value} {base : Heap} {f : Addr} {fd : FuncData}
def spLine (CL C : Addr) : Sp := fun vs H Q _ => ∃ (p dx nl : Addr) (rs : List Rec) (l : Ln), vs = [.ref p, .str (S l.name), .str (S l.told), .ref nl] ∧ H p = some (.ins CL dx []) ∧ Nds C (.str (S l.name)) rs l.nodes H ∧ H nl = some (.lst (refs rs (List.range l.nodes.length))) ∧ l.nodes.length ≤ 300 ∧
  (∀ j, j < l.nodes.length → (nth l.nodes j).named.length ≤ 8) ∧ ∀ (nm : Addr) (H' : Hp), Keep (fun c => c = p) H H' → H nm = none → LineAt CL C H' ⟨p, dx, nl, nm, rs⟩ l → Q .non H'
abbrev sLine : Stmt := inClass (top 30) 0
theorem scL : FnScope ["self", "name", "told", "nodes", "node"] ["self", "name", "told", "nodes"] (C8.fnScope sLine) := C8.fnScope_by (by decide +kernel)
theorem ok_line {CL C : Addr} (F : C8.Fun K "__init__" "Line.__init__" sLine f fd) (T : LineC K mg CL) (N : NodeC K mg C) (M : Mk K CL f) (b : Binds K fd ["self", "name", "told", "nodes"] []) : C8.Mak P w K mg base 1 "Line" CL (spLine CL C) [] := by
  refine C8.mak0 M T.mgC F b .nil scL (fun vs H Q E h => by obtain ⟨p, dx, nl, rs, l, rfl, _⟩ := h; rfl) (fun cdv A outer s H vs Q E hr h => ?_)
  obtain ⟨p, dx, nl, rs, l, rfl, hp, hN, hnl, hbd, hnm, k⟩ := h
  refine ⟨_, pss_cons (ps_fld (pv 0) (pv 1) rfl) (pss_cons (ps_fld (pv 0) (pv 2) rfl) (pss_cons (ps_fld (pv 0) (pv 3) rfl)
    (pss_one (ps_fld (pv 0) (pe_lc (own := [("node", 4)]) (g := gName 4) (tt := fun σ H Q => tFld K (tVar 4) "named" σ H fun x H' => ∃ k, TruV K x H' k ∧ Q k H') (te := tFld K (tVar 4) "named") rfl scL.nd (pi_list (pv 3)) (blkOk_by (N := ["self", "name", "told", "nodes", "node"]) (sc := C8.fnScope sLine) (by decide +kernel))
          (fun _ _ _ _ _ => pg_name (i := 4) scL.nd rfl (Or.inl rfl)) (fun _ _ _ _ _ => pts_one (pt_truth (pe_fld (pv 4) (by rfl)) (by intro _; rfl))) (fun _ _ _ _ _ => pe_fld (pv 4) (by rfl))) rfl)))), ?_⟩
  refine ⟨_, rfl, _, rfl, p, CL, dx, [], rfl, hp, T.cl, T.n1, (by show 0 < 1000; decide), ?_⟩
  refine ⟨_, rfl, _, rfl, p, CL, dx, _, rfl, upd_same, T.cl, T.n2, (by show 1 < 1000; decide), ?_⟩
  refine ⟨_, rfl, _, rfl, p, CL, dx, _, rfl, upd_same, T.cl, T.n3, (by show 2 < 1000; decide), ?_⟩
  have ne : ∀ {c : Addr} {o : HO}, H c = some o → (∀ C' d, o ≠ .ins C' d []) → c ≠ p := fun hc ho z => by rw [z, hp] at hc; cases hc; exact ho _ _ rfl
  have keep : ∀ {F1 F2 F3 : List (Str × V)} {c : Addr} {o : HO}, H c = some o → c ≠ p → upd (upd (upd H p (.ins CL dx F1)) p (.ins CL dx F2)) p (.ins CL dx F3) c = some o := fun hc n => by rw [upd_ne n, upd_ne n, upd_ne n]; exact hc
  have hNs : ∀ {F1 F2 F3 : List (Str × V)}, Nds C (.str (S l.name)) rs l.nodes (upd (upd (upd H p (.ins CL dx F1)) p (.ins CL dx F2)) p (.ins CL dx F3)) := fun {F1 F2 F3} =>
    ⟨hN.len, fun i hi => ⟨keep (hN.at_ i hi).ins (ne (hN.at_ i hi).ins fun _ _ z => by cases z), keep (hN.at_ i hi).tup (ne (hN.at_ i hi).tup fun _ _ z => by cases z), keep (hN.at_ i hi).win (ne (hN.at_ i hi).win fun _ _ z => by cases z)⟩, hN.ia, hN.iw⟩
  have hnl3 : ∀ {F1 F2 F3 : List (Str × V)}, upd (upd (upd H p (.ins CL dx F1)) p (.ins CL dx F2)) p (.ins CL dx F3) nl = some (.lst (refs rs (List.range l.nodes.length))) := keep hnl (ne hnl fun _ _ z => by cases z)
  have el : EvL (tLc (iList K (tVar 3)) (gName 4) (fun σ H Q => tFld K (tVar 4) "named" σ H fun x H' => ∃ k, TruV K x H' k ∧ Q k H') (tFld K (tVar 4) "named") [4]) (start ["self", "name", "told", "nodes", "node"] [V.ref p, .str (S l.name), .str (S l.told), .ref nl])
      (upd (upd (upd H p (.ins CL dx (putF "name" (.str (S l.name)) []))) p (.ins CL dx (putF "told" (.str (S l.told)) (putF "name" (.str (S l.name)) [])))) p (.ins CL dx (putF "nodes" (.ref nl) (putF "told" (.str (S l.told)) (putF "name" (.str (S l.name)) [])))))
      (given (refs rs (List.range l.nodes.length)).length (fun i => decide ((nth l.nodes i).named ≠ [])) (fun i => .str (S (nth l.nodes i).named))) := by
    have at_i : ∀ {i : Nat} {x : V}, (refs rs (List.range l.nodes.length))[i]? = some x → i < l.nodes.length ∧ x = .ref (R rs i).a := fun {i x} hv => by
      have hi : i < l.nodes.length := by
        have := (List.getElem?_eq_some_iff.mp hv).1
        unfold refs at this
        rw [List.length_map, List.length_range] at this
        exact this
      unfold refs at hv
      rw [List.getElem?_map, List.getElem?_range hi] at hv
      exact ⟨hi, (Option.some.inj hv).symm⟩
    refine el_lcL (K := K) (j := 4) _ _ (ev_var rfl) (sq_of hnl3) (by unfold refs; rw [List.length_map, List.length_range]; omega) (fun _ => rfl) (fun i x H1 e1 hv => ?_) (fun i x H1 e1 hv _ => ?_)
    · obtain ⟨hi, rfl⟩ := at_i hv
      exact et_truS (ev_fld (ev_var rfl) (e1 _ _ (hNs.at_ i hi).ins) N.cl N.n4 rfl) (by have := hnm i hi; omega)
    · obtain ⟨hi, rfl⟩ := at_i hv
      exact ev_fld (ev_var rfl) (e1 _ _ (hNs.at_ i hi).ins) N.cl N.n4 rfl
  refine s_fldL upd_same (ev_var rfl) el T.cl T.n4 (by show 3 < 1000; decide) fun nm H4 hm0 e4 hm4 => ?_
  have lx : (refs rs (List.range l.nodes.length)).length = l.nodes.length := by unfold refs; rw [List.length_map, List.length_range]
  rw [lx, ← names_given] at hm4
  have nmp : nm ≠ p := fun z => by rw [z, upd_same] at hm0; cases hm0
  have old : ∀ {c : Addr} {o : HO}, H c = some o → c ≠ p → H4 c = some o := fun hc n => e4 _ _ (keep hc n)
  have old5 : ∀ {c : Addr} {o o' : HO}, H c = some o → c ≠ p → (upd H4 p o') c = some o := fun hc n => (upd_ne n).trans (old hc n)
  refine k nm _ (fun c o n hc => old5 hc n) ?_ ⟨upd_same, ⟨hN.len, fun i hi => ⟨old5 (hN.at_ i hi).ins (ne (hN.at_ i hi).ins fun _ _ z => by cases z), old5 (hN.at_ i hi).tup (ne (hN.at_ i hi).tup fun _ _ z => by cases z), old5 (hN.at_ i hi).win (ne (hN.at_ i hi).win fun _ _ z => by cases z)⟩, hN.ia, hN.iw⟩,
    old5 hnl (ne hnl fun _ _ z => by cases z), (upd_ne nmp).trans hm4, hbd⟩
  rw [upd_ne nmp, upd_ne nmp, upd_ne nmp] at hm0
  exact hm0
end
end K5
set_option Elab.async false
set_option linter.all false
set_option maxRecDepth 100000
set_option maxHeartbeats 4000000
namespace K5
open PySem PySem.Spec PyProof.Rows L2 Evl Xl SX Mi
def rSplit : V → List V → Hp → VK → Prop := fun x xs H Q => ∃ a b, x = V.str a ∧ xs = [V.str b] ∧ (b.length == 0) = false ∧ a.length + 2 ≤ PySem.sizeLine ∧ rNewStrs (PySem.Txt.split a b) H Q
theorem el_split {ta tb : TE} {σ : L2.St} {H : Hp} {a b : Wd} (ha : Ev ta σ H (.str (S a))) (hb : Ev tb σ H (.str (S b))) (hb1 : b ≠ []) (hb2 : (b.all fun x => decide (x < 256)) = true) (hl : a.length ≤ 9000) : EvL (tM1 rSplit ta tb) σ H ((TL.spl b 0 [] a).map fun x => .str (S x)) := by
  refine fun H1 e Q q => ha H1 e _ fun H2 e2 => ⟨⟨_, rfl⟩, hb H2 (e.trans e2) _ fun H3 e3 => ⟨S a, S b, rfl, rfl, ?_, ?_, fun p hp => ?_⟩⟩
  · cases b with
    | nil => exact absurd rfl hb1
    | cons c r => rw [S_len]; simp
  · rw [S_len, sizeLine_eq]; omega
  · have e23 := e2.trans e3
    refine q p _ (fresh_back e23 hp) (ex_put (fresh_back e23 hp) e23) ?_
    rw [upd_same, split_S hb1 hb2, List.map_map]
    rfl
theorem q_twoT {K : PySem.W.Frag} {ta tb : TE} {σ : L2.St} {H : Hp} {x y : V} {i j : Nat} {D : Ends} {tz : TS} (ha : Ev ta σ H x) (hb : Ev tb σ H y) (k : ∀ H1, Ex H H1 → tz D ((σ.set i (some x)).set j (some y)) H1) :
    tSeq (tAsg (tTup (tCons ta (tCons tb tNil))) (gTup K 2 (gCons (gName i) (gCons (gName j) gNil)))) tz D σ H :=
  ha H (Ex.refl H) _ fun H1 e1 => hb H1 e1 _ fun H2 e2 => ⟨by show 2 ≤ sizeLine; rw [sizeLine_eq]; omega, fun p hp => ⟨p, _, rfl, st_of upd_same, rfl, x, [y], rfl, y, [], rfl, rfl, k _ ((e1.trans e2).trans (ex_put hp (Ex.refl H2)))⟩⟩
theorem s_twoT {K : PySem.W.Frag} {ta tb : TE} {σ : L2.St} {H : Hp} {x y : V} {i j : Nat} {D : Ends} (ha : Ev ta σ H x) (hb : Ev tb σ H y) (k : ∀ H1, Ex H H1 → D.nx ((σ.set i (some x)).set j (some y)) H1) :
    tAsg (tTup (tCons ta (tCons tb tNil))) (gTup K 2 (gCons (gName i) (gCons (gName j) gNil))) D σ H :=
  ha H (Ex.refl H) _ fun H1 e1 => hb H1 e1 _ fun H2 e2 => ⟨by show 2 ≤ sizeLine; rw [sizeLine_eq]; omega, fun p hp => ⟨p, _, rfl, st_of upd_same, rfl, x, [y], rfl, y, [], rfl, rfl, k _ ((e1.trans e2).trans (ex_put hp (Ex.refl H2)))⟩⟩
theorem s_par {ta : TA} {σ : L2.St} {H : Hp} {x y : V} {i j : Nat} {D : Ends} (ha : EvA ta σ H [x, y]) (k : ∀ H1, Ex H H1 → D.nx ((σ.set i (some x)).set j (some y)) H1) : tPar i j ta D σ H :=
  ha H (Ex.refl H) _ fun H1 e1 => ⟨x, y, rfl, k H1 e1⟩
theorem q_callA {sp : Sp} {dvs vs : List V} {E : XK} {ta : TA} {σ : L2.St} {H : Hp} {D : Ends} {tz : TS} {i : Nat} (h : EvA ta σ H vs) (k : ∀ H1, Ex H H1 → sp (vs ++ dvs) H1 (fun v H2 => tz D (σ.set i (some v)) H2) E) : tSeq (tAsg (tCall sp dvs E ta) (gName i)) tz D σ H :=
  h H (Ex.refl H) _ fun H1 e1 => k H1 e1
theorem r_make {C : Addr} {sp : Sp} {dvs vs : List V} {E : XK} {ta : TA} {σ : L2.St} {H : Hp} {Q : VK} (h : EvA ta σ H vs) (k : ∀ H1, Ex H H1 → ∀ x dx, H1 x = none → H1 dx = none → dx ≠ x → sp (V.ref x :: (vs ++ dvs)) (upd (upd H1 dx (.own x)) x (.ins C dx [])) (fun v H2 => v = .non ∧ Q (.ref x) H2) E) : tMake C sp dvs E ta σ H Q :=
  h H (Ex.refl H) _ fun H1 e1 => k H1 e1
section
variable {P : Program} {w : World} {K : PySem.W.Frag} {mg : Str → Option Value} {base : Heap} {f : Addr} {fd : FuncData}
def spRL (CL C : Addr) : Sp := fun vs H Q _ => ∃ told : Wd, vs = [.str (S told)] ∧ told.length ≤ 9000 ∧ (readLine told = none → ∀ H', Ex H H' → Q .non H') ∧
  ∀ l, readLine told = some l → ∀ (r : LRec) (H' : Hp), Ex H H' → LineAt CL C H' r l → (∀ i, i < l.nodes.length → H (R r.rs i).w = none) → H r.a = none → H r.nl = none → H r.nm = none → Q (.ref r.a) H'
theorem scRL : FnScope ["told", "words", "name", "start", "nodes"] ["told"] (C8.fnScope (top 32)) := C8.fnScope_by (by decide +kernel)
theorem ok_read_line {CL C : Addr} (F : C8.Def K mg "read_line" (top 32) f fd) (b : Binds K fd ["told"] []) (T : Txt2 K w mg) (cF : C8.Cal P w K mg base 2 "is_free" spFree []) (cE : C8.Cal P w K mg base 4 "read_expression" (spExpr C) [])
    (cL : C8.Mak P w K mg base 1 "Line" CL (spLine CL C) []) : C8.Cal P w K mg base 5 "read_line" (spRL CL C) [] := by
  obtain ⟨tm, mm⟩ := T.mostW
  refine C8.cal0 F b .nil scRL (fun vs H Q E h => by obtain ⟨told, rfl, _⟩ := h; rfl) (fun cdv A outer s H vs Q E hr h => ?_)
  obtain ⟨told, rfl, hl, k0, k1⟩ := h
  refine ⟨_, pss_cons (ps_set (i := 1) scRL.nd rfl (Or.inl rfl) (pe_split (pv 0) pe_str))
    (pss_cons (ps_if (pt_cmpR op_gt (pe_callB call_len_seq (by rfl) T.len_ boot_len (pa_cons (pv 1) pa_nil)) (pe_glob (v := .int 120) (by rfl) mm ⟨tm, rfl⟩) (nomark _)) (pss_one (ps_ret pe_non)) pss_nil)
    (pss_cut (ps_if (pt_cmpR op_eq (pe_ix ix_list (pv 1) pe_int (fun _ _ => rfl)) pe_str (nomark _))
        (pss_one (ps_asg (pe_tup (pa_cons pe_str (pa_cons pe_int pa_nil))) (pg_tup (by rfl) (pgs_cons (pg_name (i := 2) scRL.nd rfl (.inl rfl)) (pgs_cons (pg_name (i := 3) scRL.nd rfl (.inl rfl)) pgs_nil)))))
        (pss_one (ps_if (pw_and (pt_cmpR op_eq (pe_ix ix_list (pv 1) pe_int (fun _ _ => rfl)) pe_str (nomark _))
            (pw_and (pt_cmpR op_gt (pe_callB call_len_seq (by rfl) T.len_ boot_len (pa_cons (pv 1) pa_nil)) pe_int (nomark _))
            (pw_and (pt_val (C8.pe_c cF hr (by decide) (by rfl) (pa_cons (pe_ix ix_list (pv 1) pe_int (fun _ _ => rfl)) pa_nil)))
              (pw_and1 (pt_cmpR op_eq (pe_ix ix_list (pv 1) pe_int (fun _ _ => rfl)) pe_str (nomark _)))))).pt
          (pss_one (ps_par (i := 2) (j := 3) (by rfl) scRL.nd rfl rfl (by decide) rfl rfl (pa_cons (pe_ix ix_list (pv 1) pe_int (fun _ _ => rfl)) (pa_cons pe_int pa_nil)) (by rfl)))
          (pss_one (ps_ret pe_non)))))
    (pss_cons (ps_set (i := 4) scRL.nd rfl (Or.inl rfl) (C8.pe_c cE hr (by decide) (by rfl) (pa_cons (pv 2) (pa_cons (pv 1) (pa_cons (pv 3) pa_nil)))))
    (pss_one (ps_ret (pe_ifExp (pt_cmp (pc_isN (pv 4))) pe_non (C8.pe_mk cL hr (by decide) (by rfl) (pa_cons (pv 2) (pa_cons (pv 0) (pa_cons (pv 4) pa_nil))))))))))
    , ?_⟩
  have l32 : (Str.ofString " " : Str) = S [32] := by decide
  have lrun : (Str.ofString "run" : Str) = S [114, 117, 110] := by decide
  have lpart : (Str.ofString "part" : Str) = S [112, 97, 114, 116] := by decide
  have lfun : (Str.ofString "fun" : Str) = S [102, 117, 110] := by decide
  refine q_asgL (el_split (a := told) (b := [32]) (ev_var rfl) (by rw [← l32]; exact ev_c) (by decide) (by decide) hl) fun wd H1 hwd0 e1 hwd => ?_
  have hw1 : 1 ≤ (TL.spl [32] 0 [] told).length := by
    cases z : TL.spl [32] 0 [] told with
    | nil => exact absurd z spl_ne
    | cons a b => simp
  have hwl : ∀ y ∈ TL.spl [32] 0 [] told, y.length ≤ 9000 := fun y hy => by have := (@spl_len [32] told 0 []).2 y hy; simp at this; omega
  have hrl : readLine told = (let words := TL.spl [32] 0 [] told
      if 120 < words.length then none
      else if words.getD 0 [] = [114, 117, 110] then (readExpr words 1).map fun ns => ⟨[114, 117, 110], told, ns⟩
      else if words.getD 0 [] = [112, 97, 114, 116] ∧ 2 < words.length ∧ okFree (words.getD 1 []) = true ∧ words.getD 2 [] = [102, 117, 110] then (readExpr words 2).map fun ns => ⟨words.getD 1 [], told, ns⟩
      else none) := rfl
  generalize hws : TL.spl [32] 0 [] told = ws at *
  dsimp only at hrl
  have lw : (ws.map fun x => V.str (S x)).length = ws.length := by simp
  have wix : ∀ {σ : L2.St} {G : Hp} {n : Nat} {tn : TE}, Ex H1 G → n < ws.length → σ[1]? = some (some (.ref wd)) → Ev tn σ G (.int n) → Ev (tOp (rIxL K) (tVar 1) tn) σ G (.str (S (ws.getD n []))) := fun {σ G n tn} e hn hσ ht => ev_op (ev_var hσ) ht (rv_ixL (sq_of (e _ _ hwd)) (atI_ws hn))
  refine q_when (b := decide (120 < ws.length)) (et_is (et_test (ev_op (ev_len (ev_var rfl) (sq_of hwd)) ev_c rv_I0)) (by rw [lw]; exact decide_eq_decide.mpr (by omega))) (fun hb H2 e2 => ?_) (fun hb H2 e2 => ?_)
  · rw [if_pos (of_decide_eq_true hb)] at hrl
    exact s_ret ev_c fun H3 e3 => k0 hrl H3 ((e1.trans e2).trans e3)
  · have h120 : ¬ 120 < ws.length := of_decide_eq_false hb
    rw [if_neg h120] at hrl
    refine q_cut (M := fun σ G => ∃ (x : Wd) (st : Nat), σ = [some (.str (S told)), some (.ref wd), some (.str (S x)), some (.int st), none] ∧ Ex H2 G ∧ st ≤ 2 ∧ x.length ≤ 9000 ∧ readLine told = (readExpr ws st).map fun ns => ⟨x, told, ns⟩) ?_ ?_
    · refine s_if (b := decide (ws.getD 0 [] = [114, 117, 110])) (et_is (et_test (ev_op (wix (n := 0) e2 (by omega) rfl ev_c) ev_c (rv_eq rfl))) (by rw [lrun]; exact S_eqc)) (fun hb1 H3 e3 => ?_) (fun hb1 H3 e3 => ?_)
      · rw [if_pos (of_decide_eq_true hb1)] at hrl
        exact s_twoT (x := .str (S [114, 117, 110])) (y := .int 1) (by rw [← lrun]; exact ev_c) ev_c fun H4 e4 => ⟨[114, 117, 110], 1, rfl, e3.trans e4, by omega, by simp, hrl⟩
      · rw [if_neg (of_decide_eq_false hb1)] at hrl
        refine s_if (b := decide (ws.getD 0 [] = [112, 97, 114, 116] ∧ 2 < ws.length ∧ okFree (ws.getD 1 []) = true ∧ ws.getD 2 [] = [102, 117, 110])) (et_is (et_and (a := decide (ws.getD 0 [] = [112, 97, 114, 116])) (b := decide (2 < ws.length) && (okFree (ws.getD 1 []) && decide (ws.getD 2 [] = [102, 117, 110])))
            (et_is (et_test (ev_op (wix (n := 0) (e2.trans e3) (by omega) rfl ev_c) ev_c (rv_eq rfl))) (by rw [lpart]; exact S_eqc)) fun _ => et_and (et_is (et_test (ev_op (ev_len (ev_var rfl) (sq_of ((e2.trans e3) _ _ hwd))) ev_c rv_I0)) (by rw [lw]; norm_cast)) fun h2 => ?_) ?_) (fun hb2 H4 e4 => ?_) (fun hb2 H4 e4 => ?_)
        · have h2' : 2 < ws.length := of_decide_eq_true h2
          exact et_and (et_B (ev_call (ea_cons (wix (n := 1) (e2.trans e3) (by omega) rfl ev_c) ea_nil) fun H5 e5 Q' q E' => ⟨_, rfl, hwl _ (mem_ws (by omega)), q⟩)) fun _ => et_is (et_test (ev_op (wix (n := 2) (e2.trans e3) (by omega) rfl ev_c) ev_c (rv_eq rfl))) (by rw [lfun]; exact S_eqc)
        · simp only [Bool.decide_and, Bool.decide_eq_true]
        · have hb2' := of_decide_eq_true hb2
          rw [if_pos hb2'] at hrl
          exact s_par (x := .str (S (ws.getD 1 []))) (y := .int 2) (ea_cons (wix (n := 1) ((e2.trans e3).trans e4) (by omega) rfl ev_c) (ea_cons ev_c ea_nil)) fun H5 e5 => ⟨_, 2, rfl, (e3.trans e4).trans e5, by omega, hwl _ (mem_ws (by omega)), hrl⟩
        · rw [if_neg (of_decide_eq_false hb2)] at hrl
          exact s_ret ev_c fun H5 e5 => k0 hrl H5 ((((e1.trans e2).trans e3).trans e4).trans e5)
    · rintro σ' G ⟨x, st, rfl, eG, hst, hxl, hrr⟩
      have e1G := e2.trans eG
      refine q_callA (vs := [.str (S x), .ref wd, .int st]) (ea_cons (ev_var rfl) (ea_cons (ev_var rfl) (ea_cons (ev_var rfl) ea_nil))) fun H3 e3 => ?_
      have e13 := e1G.trans e3
      refine ⟨wd, .str (S x), ws, st, rfl, e13 _ _ hwd, by omega, hwl, by omega, fun hn H4 e4 => ?_, fun ns hn rs nl H4 e4 N4 hnl hnl4 hf hbd => ?_⟩
      · rw [hn] at hrr
        exact s_ret (ev_if (b := true) (et_in (ev_var rfl)) (fun _ => ev_c) fun z => (by cases z)) fun H5 e5 => k0 hrr H5 (((e1.trans e13).trans e4).trans e5)
      · rw [hn] at hrr
        have hrr' : readLine told = some ⟨x, told, ns⟩ := hrr
        have eall := e1.trans (e13.trans e4)
        refine ⟨_, rfl, false, ?_, ?_⟩
        · simp
        · refine r_make (vs := [.str (S x), .str (S told), .ref nl]) (ea_cons (ev_var rfl) (ea_cons (ev_var rfl) (ea_cons (ev_var rfl) ea_nil))) fun H5 e5 p dx hp hdx hne => ?_
          have x6 : Ex H5 (upd (upd H5 dx (.own p)) p (.ins CL dx [])) := ex_put hp (ex_put hdx (Ex.refl H5))
          have e56 := e5.trans x6
          refine ⟨p, dx, nl, rs, ⟨x, told, ns⟩, rfl, upd_same, N4.ex e56, e56 _ _ hnl4, hbd, readExpr_named hn, fun nm H7 K7 hnm L7 => ⟨rfl, ?_⟩⟩
          have hp0 : H p = none := fresh_back (eall.trans e5) hp
          have ex7 : Ex H H7 := fun c o hc => K7 c o (fun z => by rw [z, hp0] at hc; cases hc) ((eall.trans e56) c o hc)
          refine k1 _ hrr' ⟨p, dx, nl, nm, rs⟩ H7 ex7 L7 (fun i hi => fresh_back (e1.trans e13) (hf i hi)) hp0 (fresh_back (e1.trans e13) hnl) (fresh_back (eall.trans e56) hnm)
end
end K5
set_option Elab.async false
set_option linter.all false
set_option maxRecDepth 100000
set_option maxHeartbeats 4000000
namespace K5
open PySem PySem.Spec PyProof.Rows L2 Evl Xl SX Mi
def LR (lrs : List LRec) (i : Nat) : LRec := lrs.getD i default
def lnth (ls : List Ln) (i : Nat) : Ln := ls.getD i default
def lrefs (lrs : List LRec) : List V := lrs.map fun r => .ref r.a
structure Lns (CL C : Addr) (lrs : List LRec) (ls : List Ln) (H : Hp) : Prop where
  len : lrs.length = ls.length
  at_ : ∀ i, i < ls.length → LineAt CL C H (LR lrs i) (lnth ls i)
theorem Lns.ex {CL C : Addr} {lrs : List LRec} {ls : List Ln} {H H' : Hp} (h : Lns CL C lrs ls H) (e : Ex H H') : Lns CL C lrs ls H' := ⟨h.len, fun i hi => (h.at_ i hi).ex e⟩
theorem inV_map {x : Wd} {l : List Wd} : inV (.str (S x)) (l.map fun y => .str (S y)) = decide (x ∈ l) := by
  induction l with
  | nil => rfl
  | cons a r ih =>
    show ((S a == S x) || inV (.str (S x)) (r.map fun y => .str (S y))) = _
    rw [ih, S_beq_eq]
    by_cases h : a = x
    · subst h; simp
    · have h2 : ¬ x = a := fun z => h z.symm
      simp [h, h2]
theorem flat_map {l : List Wd} : (l.map fun y => V.str (S y)).all flatV = true := by simp [flatV]
theorem ls_range {ls : List Ln} : ls = (List.range ls.length).map (lnth ls) := by
  refine List.ext_getElem (by simp) fun i h1 h2 => ?_
  unfold lnth
  simp [List.getD_eq_getElem?_getD, h1]
theorem given_ls {ls : List Ln} (g : Ln → V) : given ls.length (fun _ => true) (fun i => g (lnth ls i)) = ls.map g := by
  unfold given
  conv => rhs; rw [ls_range (ls := ls)]
  rw [List.map_map, List.filter_eq_self.mpr fun _ _ => rfl]
  rfl
theorem given_ws {zs : List Wd} (g : Wd → V) : given zs.length (fun _ => true) (fun i => g (zs.getD i [])) = zs.map g := by
  unfold given
  rw [List.filter_eq_self.mpr fun _ _ => rfl]
  refine List.ext_getElem (by simp) fun i h1 h2 => ?_
  have h3 : i < zs.length := by simpa using h2
  simp [List.getD_eq_getElem?_getD, h3]
theorem names_bd {l : Ln} (h : l.nodes.length ≤ 300) : l.names.length ≤ 300 := by
  unfold Ln.names
  rw [List.length_map]
  exact Nat.le_trans (List.length_filter_le _ _) h
theorem lrefs_at {CL C : Addr} {lrs : List LRec} {ls : List Ln} {H : Hp} (h : Lns CL C lrs ls H) {i : Nat} {x : V} (hx : (lrefs lrs)[i]? = some x) : i < ls.length ∧ x = .ref (LR lrs i).a := by
  unfold lrefs at hx
  rw [List.getElem?_map] at hx
  cases z : lrs[i]? with
  | none => rw [z] at hx; cases hx
  | some r =>
    rw [z] at hx
    have hi : i < lrs.length := (List.getElem?_eq_some_iff.mp z).1
    refine ⟨by rw [← h.len]; exact hi, ?_⟩
    unfold LR
    rw [List.getD_eq_getElem?_getD, z]
    exact (Option.some.inj hx).symm
section
variable {P : Program} {w : World} {K : PySem.W.Frag} {mg : Str → Option Value} {base : Heap} {f : Addr} {fd : FuncData}
theorem el_lnames {CL C : Addr} {lrs : List LRec} {ls : List Ln} {H : Hp} {σ : L2.St} {al : Addr} {tl : TE} {j : Nat} {vs : List Nat} (T : LineC K mg CL) (h : Lns CL C lrs ls H) (ht : Ev tl σ H (.ref al)) (ha : H al = some (.lst (lrefs lrs))) (hl : ls.length ≤ 1000)
    (hw : ∀ y, wipe ((wipe σ vs).set j (some y)) vs = wipe σ vs) (hj : ∀ y, ((wipe σ vs).set j (some y))[j]? = some (some y)) : EvL (tLc (iList K tl) (gName j) tYes (tFld K (tVar j) "name") vs) σ H ((ls.map (·.name)).map fun x => .str (S x)) := by
  have lx : (lrefs lrs).length = ls.length := by unfold lrefs; rw [List.length_map, h.len]
  have g := el_lcL (K := K) (te := tFld K (tVar j) "name") (t := tYes) (j := j) (vs := vs) (fun _ => true) (fun i => .str (S (lnth ls i).name)) ht (sq_of ha) (by rw [lx]; omega) hw (fun i x H1 e1 hx => fun H2 e2 Q q => q H2 (Ex.refl H2)) fun i x H1 e1 hx _ => by
    obtain ⟨hi, rfl⟩ := lrefs_at h hx
    exact ev_fld (ev_var (hj _)) (e1 _ _ (h.at_ i hi).ins) T.cl T.n1 rfl
  rw [lx, given_ls fun o => .str (S o.name)] at g
  rw [List.map_map]
  exact g
def spCan (CL C : Addr) : Sp := fun vs H Q _ => ∃ (r : LRec) (l : Ln) (lrs : List LRec) (ls : List Ln) (al : Addr), vs = [.ref r.a, .ref al] ∧ LineAt CL C H r l ∧ Lns CL C lrs ls H ∧ H al = some (.lst (lrefs lrs)) ∧ ls.length ≤ 1000 ∧ ∀ H', Ex H H' → Q (.bl (canStand l ls)) H'
abbrev nC : List Str := ["line", "ahead", "names", "other", "name"]
theorem scC : FnScope nC ["line", "ahead"] (C8.fnScope (top 33)) := C8.fnScope_by (by decide +kernel)
theorem ok_can {CL C : Addr} (F : C8.Def K mg "can_stand" (top 33) f fd) (b : Binds K fd ["line", "ahead"] []) (T : Txt2 K w mg) (L : LineC K mg CL) : C8.Cal P w K mg base 1 "can_stand" (spCan CL C) [] := by
  obtain ⟨tp, mp⟩ := T.mostP
  refine C8.cal0 F b .nil scC (fun vs H Q E h => by obtain ⟨r, l, lrs, ls, al, rfl, _⟩ := h; rfl) (fun cdv A outer s H vs Q E hr h => ?_)
  obtain ⟨r, l, lrs, ls, al, rfl, hl, hls, hal, hlen, k⟩ := h
  refine ⟨_, pss_cons (ps_set (i := 2) scC.nd rfl (Or.inr rfl) (pe_lc (own := [("other", 3)]) (g := gName 3) (tt := tYes) (te := tFld K (tVar 3) "name") rfl scC.nd (pi_list (pv 1)) (blkOk_by (N := nC) (sc := C8.fnScope (top 33)) (by decide +kernel))
      (fun _ _ _ _ _ => pg_name (i := 3) scC.nd rfl (Or.inl rfl)) (fun _ _ _ _ _ => pts_nil) (fun _ _ _ _ _ => pe_fld (pv 3) (by rfl))))
    (pss_cons (ps_if (pw_or (pt_cmpR op_in_seq pe_str (pv 2) rfl) (pw_or1 (pt_cmpR op_in_seq (pe_fld (pv 0) rfl) (pv 2) rfl))).pt (pss_one (ps_ret pe_bl)) pss_nil)
    (pss_cons (ps_if (pw_and (pt_cmpR op_ne (pe_fld (pv 0) rfl) pe_str (nomark _)) (pw_and1 (pt_cmpR op_eq (pe_callB call_len_seq (by rfl) T.len_ boot_len (pa_cons (pv 2) pa_nil)) (pe_glob (v := .int 12) (by rfl) mp ⟨tp, rfl⟩) (nomark _)))).pt (pss_one (ps_ret pe_bl)) pss_nil)
    (pss_cons (ps_if (pw_or (pt_cmpR op_in_seq (pe_fld (pv 0) rfl) (pe_fld (pv 0) rfl) rfl) (pw_or1 (pt_val (pe_callB (cr_any rfl) (by rfl) T.any_ boot_any (pa_cons (pe_lc (own := [("other", 3)]) (g := gName 3) (tt := tYes) (te := tOp (rIn K false) (tFld K (tVar 0) "name") (tFld K (tVar 3) "names")) rfl scC.nd (pi_list (pv 1)) (blkOk_by (N := nC) (sc := C8.fnScope (top 33)) (by decide +kernel))
          (fun _ _ _ _ _ => pg_name (i := 3) scC.nd rfl (Or.inl rfl)) (fun _ _ _ _ _ => pts_nil) (fun _ _ _ _ _ => pe_cmpR op_in_seq (pe_fld (pv 0) (by rfl)) (pe_fld (pv 3) (by rfl)) rfl)) pa_nil))))).pt (pss_one (ps_ret pe_bl)) pss_nil)
    (pss_one (ps_ret (pe_not (pe_callB (cr_any rfl) (by rfl) T.any_ boot_any (pa_cons (pe_lc (own := [("name", 4)]) (g := gName 4) (tt := tYes) (te := tOp (rIn K false) (tVar 4) (tVar 2)) rfl scC.nd (pi_list (pe_fld (pv 0) rfl)) (blkOk_by (N := nC) (sc := C8.fnScope (top 33)) (by decide +kernel))
          (fun _ _ _ _ _ => pg_name (i := 4) scC.nd rfl (Or.inl rfl)) (fun _ _ _ _ _ => pts_nil) (fun _ _ _ _ _ => pe_cmpR op_in_seq (pv 4) (pv 2) rfl)) pa_nil)))))))), ?_⟩
  have lrun : (Str.ofString "run" : Str) = S [114, 117, 110] := by decide
  have lx : (lrefs lrs).length = ls.length := by unfold lrefs; rw [List.length_map, hls.len]
  refine q_asgL (el_lnames (j := 3) L hls (ev_var rfl) hal hlen (fun y => rfl) fun y => rfl) fun nm H1 hnm0 e1 hnm => ?_
  have hcs : canStand l ls = (let names := ls.map (·.name)
      if [114, 117, 110] ∈ names ∨ l.name ∈ names then false
      else if l.name ≠ [114, 117, 110] ∧ names.length = 12 then false
      else if l.name ∈ l.names ∨ (ls.any fun o => decide (l.name ∈ o.names)) = true then false
      else !(l.names.any fun n => decide (n ∈ names))) := rfl
  generalize hNM : ls.map (·.name) = NM at *
  dsimp only at hcs
  have name_ : ∀ {σ : L2.St} {G : Hp}, Ex H G → σ[0]? = some (some (.ref r.a)) → Ev (tFld K (tVar 0) "name") σ G (.str (S l.name)) := fun e hσ => ev_fld (ev_var hσ) (e _ _ hl.ins) L.cl L.n1 rfl
  refine q_when (b := decide ([114, 117, 110] ∈ NM ∨ l.name ∈ NM)) (et_is (et_or (a := decide ([114, 117, 110] ∈ NM)) (b := decide (l.name ∈ NM)) (et_is (et_test (ev_op ev_c (ev_var rfl) (rv_isL (sq_of hnm) rfl flat_map))) (by rw [lrun]; exact inV_map))
      fun _ => et_is (et_test (ev_op (name_ e1 rfl) (ev_var rfl) (rv_isL (sq_of hnm) rfl flat_map))) inV_map) (by simp)) (fun hb H2 e2 => ?_) (fun hb H2 e2 => ?_)
  · rw [if_pos (of_decide_eq_true hb)] at hcs
    rw [hcs] at k
    exact s_ret ev_c fun H3 e3 => k H3 ((e1.trans e2).trans e3)
  · rw [if_neg (of_decide_eq_false hb)] at hcs
    have e12 := e1.trans e2
    refine q_when (b := decide (l.name ≠ [114, 117, 110] ∧ NM.length = 12)) (et_is (et_and (a := !decide (l.name = [114, 117, 110])) (b := decide (NM.length = 12)) (et_is (et_test (ev_op (name_ e12 rfl) ev_c (rv_ne rfl))) (by rw [lrun, S_eqc]))
        fun _ => et_is (et_test (ev_op (ev_len (ev_var rfl) (sq_of (e2 _ _ hnm))) ev_c (rv_eq rfl))) (by
          refine decide_eq_decide.mpr ⟨fun z => ?_, fun z => ?_⟩
          · have z2 := V.int.inj z
            rw [List.length_map] at z2
            omega
          · rw [List.length_map, z]; rfl)) (by simp)) (fun hb2 H3 e3 => ?_) (fun hb2 H3 e3 => ?_)
    · rw [if_pos (of_decide_eq_true hb2)] at hcs
      rw [hcs] at k
      exact s_ret ev_c fun H4 e4 => k H4 ((e12.trans e3).trans e4)
    · rw [if_neg (of_decide_eq_false hb2)] at hcs
      have e13 := e12.trans e3
      have anyE : EvL (tLc (iList K (tVar 1)) (gName 3) tYes (tOp (rIn K false) (tFld K (tVar 0) "name") (tFld K (tVar 3) "names")) [3]) ([some (.ref r.a), some (.ref al), some (.ref nm), none, none] : L2.St) H3 ((ls.map fun o => decide (l.name ∈ o.names)).map V.bl) := by
        have g := el_lcL (K := K) (te := tOp (rIn K false) (tFld K (tVar 0) "name") (tFld K (tVar 3) "names")) (t := tYes) (j := 3) (vs := [3]) (σ := ([some (.ref r.a), some (.ref al), some (.ref nm), none, none] : L2.St)) (H := H3) (tl := tVar 1) (fun _ => true) (fun i => .bl (decide (l.name ∈ (lnth ls i).names))) (ev_var rfl) (sq_of (e13 _ _ hal)) (by rw [lx]; omega) (fun _ => rfl) (fun i x H4 e4 hx => fun H5 e5 Q q => q H5 (Ex.refl H5)) fun i x H4 e4 hx _ => by
          obtain ⟨hi, rfl⟩ := lrefs_at hls hx
          have la := (hls.at_ i hi).ex (e13.trans e4)
          exact ev_is (ev_op (name_ (e13.trans e4) rfl) (ev_fld (ev_var rfl) la.ins L.cl L.n4 rfl) (rv_isL (sq_of la.nm) rfl flat_map)) (by rw [inV_map])
        rw [lx, given_ls fun o => .bl (decide (l.name ∈ o.names))] at g
        rw [List.map_map]
        exact g
      have lal := hl.ex e13
      refine q_when (b := decide (l.name ∈ l.names ∨ (ls.any fun o => decide (l.name ∈ o.names)) = true)) (et_is (et_or (a := decide (l.name ∈ l.names)) (b := ls.any fun o => decide (l.name ∈ o.names)) (et_is (et_test (ev_op (name_ e13 rfl) (ev_fld (ev_var rfl) lal.ins L.cl L.n4 rfl) (rv_isL (sq_of lal.nm) rfl flat_map))) inV_map)
          fun _ => et_B (ev_is (ev_any anyE) (by rw [List.any_map]; rfl))) (by simp only [Bool.decide_or, Bool.decide_eq_true])) (fun hb3 H4 e4 => ?_) (fun hb3 H4 e4 => ?_)
      · rw [if_pos (of_decide_eq_true hb3)] at hcs
        rw [hcs] at k
        exact s_ret ev_c fun H5 e5 => k H5 ((e13.trans e4).trans e5)
      · rw [if_neg (of_decide_eq_false hb3)] at hcs
        have e14 := e13.trans e4
        have la4 := hl.ex e14
        have lnl : (l.names.map fun x => V.str (S x)).length = l.names.length := by simp
        have anyN : EvL (tLc (iList K (tFld K (tVar 0) "names")) (gName 4) tYes (tOp (rIn K false) (tVar 4) (tVar 2)) [4]) ([some (.ref r.a), some (.ref al), some (.ref nm), none, none] : L2.St) H4 ((l.names.map fun n => decide (n ∈ NM)).map V.bl) := by
          have g := el_lcL (K := K) (te := tOp (rIn K false) (tVar 4) (tVar 2)) (t := tYes) (j := 4) (vs := [4]) (σ := ([some (.ref r.a), some (.ref al), some (.ref nm), none, none] : L2.St)) (H := H4) (tl := tFld K (tVar 0) "names") (fun _ => true) (fun i => .bl (decide (l.names.getD i [] ∈ NM))) (ev_fld (ev_var rfl) la4.ins L.cl L.n4 rfl) (sq_of la4.nm) (by rw [lnl]; have := names_bd hl.bd; omega) (fun _ => rfl) (fun i x H5 e5 hx => fun H6 e6 Q q => q H6 (Ex.refl H6)) fun i x H5 e5 hx _ => by
            have hx2 : x = .str (S (l.names.getD i [])) := by
              rw [List.getElem?_map] at hx
              cases z : l.names[i]? with
              | none => rw [z] at hx; cases hx
              | some y => rw [z] at hx; rw [List.getD_eq_getElem?_getD, z]; exact (Option.some.inj hx).symm
            subst hx2
            exact ev_is (ev_op (ev_var rfl) (ev_var rfl) (rv_isL (sq_of ((((e2.trans e3).trans e4).trans e5) _ _ hnm)) rfl flat_map)) (by rw [inV_map])
          rw [lnl, given_ws fun x => .bl (decide (x ∈ NM))] at g
          rw [List.map_map]
          exact g
        rw [hcs] at k
        exact s_ret (ev_is (ev_notV (ev_any anyN)) (by rw [List.any_map]; rfl)) fun H5 e5 => k H5 (e14.trans e5)
end
end K5
set_option Elab.async false
set_option linter.all false
set_option maxRecDepth 100000
set_option maxHeartbeats 4000000
namespace K5
open PySem PySem.Spec PyProof.Rows L2 Evl Xl SX Mi
structure ErrC (K : PySem.W.Frag) (mg : Str → Option Value) (x : Str) (C fI : Addr) : Prop where
  mgC : mg x = some (.ref C)
  ox : OexC K C
  iC : PySem.W.findIn K (.ref C) "__init__" = some (some (.ref fI))
  tI : PySem.W.typeIn K (.ref fI) = some (.type "function")
  noV : PySem.W.findIn K (.ref C) "value" = some none
def spErr (K : PySem.W.Frag) : Sp := fun vs H Q _ => ∃ (a C : Addr) (v : V), vs = [.ref a, v] ∧ OexC K C ∧ PySem.W.findIn K (.ref C) "value" = some none ∧ H a = some (exo a C none) ∧ ∀ dx, H dx = none → dx ≠ a → Q .non (upd (upd H dx (exd dx [("value", v)])) a (exo a C (some dx)))
abbrev sErr : Stmt := inClass (top 2) 0
theorem scErr : FnScope ["self", "value"] ["self", "value"] (C8.fnScope sErr) := C8.fnScope_by (by decide +kernel)
section
variable {P : Program} {w : World} {K : PySem.W.Frag} {mg : Str → Option Value} {base : Heap} {f : Addr} {fd : FuncData}
theorem ok_err (F : C8.Fun K "__init__" "UseError.__init__" sErr f fd) : FnOk P w K mg base C8.CX0 1 f fd ["self", "value"] (spErr K) := by
  refine C8.fn0 F scErr (fun vs H Q E h => by obtain ⟨a, C, v, rfl, _⟩ := h; rfl) (fun cdv A outer s H vs Q E hr h => ?_)
  obtain ⟨a, C, v, rfl, ox, nv, ha, k⟩ := h
  refine ⟨_, pss_one (ps_ost (pv 0) (pv 1)), ?_⟩
  exact ⟨_, rfl, _, rfl, a, C, rfl, ox, nv, .inl ⟨ha, fun dx h1 h2 => k dx h1 h2⟩⟩
theorem r_err {C fI : Addr} {x : Str} {ta : TA} {σ : L2.St} {H : Hp} {v : V} {E : XK} (T : ErrC K mg x C fI) (h : EvA ta σ H [v]) (k : ∀ d H', Ex H H' → H d = none → H' d = some (.xd [("value", v)]) → E (.ref C) (some d) H') :
    tMkO C (spErr K) [] ta σ H fun cls d H' => E cls d H' := by
  refine h H (Ex.refl H) _ fun H1 e1 => ⟨by show 1 ≤ 1000; decide, fun a ha => ⟨a, C, v, rfl, T.ox, T.noV, upd_same, fun dx h1 h2 => ⟨rfl, dx, [("value", v)], upd_same, ?_, ?_, ?_⟩⟩⟩
  · exact (upd_ne h2).trans upd_same
  · exact (upd_ne h2).symm.trans h1
  · have hdx : H1 dx = none := (upd_ne h2).symm.trans h1
    refine k dx _ (fun c o hc => ?_) (fresh_back e1 hdx) upd_same
    have c1 : c ≠ a := fun z => by rw [z, fresh_back e1 ha] at hc; cases hc
    have c2 : c ≠ dx := fun z => by rw [z, fresh_back e1 hdx] at hc; cases hc
    rw [upd_ne c2]
    unfold del
    rw [if_neg c1, upd_ne c1, upd_ne c2, upd_ne c1]
    exact e1 _ _ hc
theorem fnX {x qual : Str} {st : Stmt} {N ps : List Str} {k : Nat} {sp : Sp} (F : C8.Fun K x qual st f fd) (S : FnScope N ps (C8.fnScope st)) (len : ∀ vs H Q E, sp vs H Q E → vs.length = ps.length)
    (hbody : ∀ (cdv : Value) (A : Around) (outer : List Env) (s : Shared) (H : Hp) (vs : List V) (Q : VK) (E : XK), Room k (A.deeper (envOfC qual (C8.fnScope st) s.heap.objs.size f cdv)) → sp vs H Q E →
      ∃ t, PSs (cxOf (L2.CX P w) P w K mg base N qual (C8.fnScope st) f cdv A outer s H E) (C8.fnBody st) t ∧ t { nx := fun _ H' => Q .non H', rt := Q } (start N vs) H) : FnOk P w K mg base (L2.CX P w) (k + 1) f fd ps sp := by
  obtain ⟨oc, od, dV, kV, doc, pm, an, cdv, ct, osl, rfl, lk, hcd⟩ := F.ex
  exact fn_of lk hcd S len fun A outer s H vs Q E hr hsp => hbody cdv A outer s H vs Q E hr hsp
end
theorem q_forE {K : PySem.W.Frag} {k₀ : Int} {te : TE} {σ : L2.St} {H : Hp} {xs : List V} {g : TG} {tu tz : TS} {D : Ends} (h : EvL te σ H xs) (Pv : Addr → Nat → L2.St → Hp → Prop) (h0 : ∀ a H1, H a = none → Ex H H1 → H1 a = some (.lst xs) → Pv a 0 σ H1)
    (hs : ∀ a i σ' H', Pv a i σ' H' → SqL K H' a xs)
    (ht : ∀ a i x σ' H' T, xs[i]? = some x → Pv a i σ' H' → H' T = none → g (.ref T) σ' (upd H' T (.tup [.int (k₀ + i), x])) fun σ2 H2 => tu { nx := Pv a (i + 1), rt := D.rt, bk := tz D, ct := Pv a (i + 1) } σ2 H2)
    (hd : ∀ a σ' H', Pv a xs.length σ' H' → tz D σ' H') : tSeq (tFor (Xe.iEnumK K k₀ (tCons te tNil)) g tu) tz D σ H :=
  h H (Ex.refl H) _ fun a H1 ha e1 hx => ⟨a, xs, rfl, sq_of hx, Xe.for_enumK (Pv a) (h0 a H1 ha e1 hx) (fun i σ' H' _ p => hs a i σ' H' p) (fun i x σ' H' T hx' p hT => ht a i x σ' H' T hx' p hT) fun σ' H' p => hd a σ' H' p⟩
theorem q_forEv {K : PySem.W.Frag} {k₀ : Int} {te : TE} {σ : L2.St} {H : Hp} {a : Addr} {xs : List V} {g : TG} {tu tz : TS} {D : Ends} (h : Ev te σ H (.ref a)) (hx : SqL K H a xs) (Pv : Nat → L2.St → Hp → Prop) (h0 : ∀ H1, Ex H H1 → Pv 0 σ H1)
    (hs : ∀ i σ' H', Pv i σ' H' → SqL K H' a xs)
    (ht : ∀ i x σ' H' T, xs[i]? = some x → Pv i σ' H' → H' T = none → g (.ref T) σ' (upd H' T (.tup [.int (k₀ + i), x])) fun σ2 H2 => tu { nx := Pv (i + 1), rt := D.rt, bk := tz D, ct := Pv (i + 1) } σ2 H2)
    (hd : ∀ σ' H', Pv xs.length σ' H' → tz D σ' H') : tSeq (tFor (Xe.iEnumK K k₀ (tCons te tNil)) g tu) tz D σ H :=
  h H (Ex.refl H) _ fun H1 e1 => ⟨a, xs, rfl, hx.imp (ex_rd e1) id, Xe.for_enumK Pv (h0 H1 e1) (fun i σ' H' _ p => hs i σ' H' p) (fun i x σ' H' T hx' p hT => ht i x σ' H' T hx' p hT) hd⟩
theorem g_two {K : PySem.W.Frag} {σ : L2.St} {H : Hp} {T : Addr} {x y : V} {i j : Nat} {R : L2.St → Hp → Prop} (hT : H T = some (.tup [x, y])) (k : R ((σ.set i (some x)).set j (some y)) H) : gTup K 2 (gCons (gName i) (gCons (gName j) gNil)) (.ref T) σ H R :=
  ⟨T, _, rfl, st_of hT, rfl, x, [y], rfl, y, [], rfl, rfl, k⟩
theorem cut_last {xs : List V} (h : xs ≠ []) : cutV xs none (some (-1)) = xs.dropLast := by
  have h1 : 1 ≤ xs.length := by cases xs with | nil => exact absurd rfl h | cons a b => simp
  unfold cutV
  rw [List.dropLast_eq_take]
  have a1 : HT.sIx xs.length 0 none = 0 := rfl
  have a2 : HT.sIx xs.length xs.length (some (-1)) = xs.length - 1 := by
    unfold HT.sIx
    simp
    omega
  rw [a1, a2]
  simp
end K5
set_option Elab.async false
set_option linter.all false
set_option maxRecDepth 100000
set_option maxHeartbeats 4000000
namespace K5
open PySem PySem.Spec PyProof.Rows L2 Evl Xl SX Mi
/-- the line's lists are not the list at p -/
def Apart (p : Addr) (r : LRec) (l : Ln) : Prop := r.nl ≠ p ∧ r.nm ≠ p ∧ ∀ i, i < l.nodes.length → (R r.rs i).w ≠ p
theorem LineAt.other {CL C p : Addr} {H : Hp} {r : LRec} {l : Ln} {xs ys : List V} (h : LineAt CL C H r l) (hp : H p = some (.lst xs)) (ap : Apart p r l) : LineAt CL C (upd H p (.lst ys)) r l := by
  have n1 : r.a ≠ p := fun z => by have := h.ins; rw [z, hp] at this; cases this
  exact ⟨(upd_ne n1).trans h.ins, h.nds.other hp ap.2.2, (upd_ne ap.1).trans h.nl, (upd_ne ap.2.1).trans h.nm, h.bd⟩
theorem LR_app {lrs : List LRec} {r : LRec} {i : Nat} (h : i < lrs.length) : LR (lrs ++ [r]) i = LR lrs i := by
  unfold LR
  simp [List.getD_eq_getElem?_getD, List.getElem?_append_left h]
theorem LR_new {lrs : List LRec} {r : LRec} : LR (lrs ++ [r]) lrs.length = r := by
  unfold LR
  simp [List.getD_eq_getElem?_getD]
theorem lnth_app {ls : List Ln} {l : Ln} {i : Nat} (h : i < ls.length) : lnth (ls ++ [l]) i = lnth ls i := by
  unfold lnth
  simp [List.getD_eq_getElem?_getD, List.getElem?_append_left h]
theorem lnth_new {ls : List Ln} {l : Ln} : lnth (ls ++ [l]) ls.length = l := by
  unfold lnth
  simp [List.getD_eq_getElem?_getD]
theorem Lns.add {CL C : Addr} {lrs : List LRec} {ls : List Ln} {H : Hp} {r : LRec} {l : Ln} (h : Lns CL C lrs ls H) (hl : LineAt CL C H r l) : Lns CL C (lrs ++ [r]) (ls ++ [l]) H := by
  refine ⟨by simp [h.len], fun i hi => ?_⟩
  by_cases z : i < ls.length
  · rw [LR_app (h.len ▸ z), lnth_app z]; exact h.at_ i z
  · have : i = ls.length := by simp at hi; omega
    subst this
    rw [lnth_new, ← h.len, LR_new]
    exact hl
theorem TyB_ex {K : PySem.W.Frag} {H H' : Hp} {x : V} {t : String} (h : TyB K H x t) (e : Ex H H') : TyB K H' x t := by
  cases h with
  | non => exact .non
  | bl b => exact .bl b
  | int i => exact .int i
  | str x => exact .str x
  | byt b => exact .byt b
  | lst h => exact .lst (h.imp (ex_rd e) id)
  | tup h => exact .tup (h.imp (ex_rd e) id)
  | dK h => exact .dK (e _ _ h)
theorem el_lst0 {σ : L2.St} {H : Hp} : EvL (tLst tNil) σ H [] := fun H1 e Q q => ⟨by show 0 ≤ sizeLine; decide, fun p hp => q p _ hp (ex_put hp (Ex.refl H1)) upd_same⟩
theorem getLastD_lnth {ls : List Ln} (h : ls ≠ []) : ls.getLastD default = lnth ls (ls.length - 1) := by
  unfold lnth
  have h1 : 1 ≤ ls.length := by cases ls with | nil => exact absurd rfl h | cons a b => simp
  rw [List.getD_eq_getElem?_getD, ← List.getLast?_eq_getElem?]
  cases ls with
  | nil => exact absurd rfl h
  | cons a b => simp [List.getLastD, List.getLast?]
theorem el_lnamesN {K : PySem.W.Frag} {mg : Str → Option Value} {CL C : Addr} {lrs : List LRec} {ls : List Ln} {H : Hp} {σ : L2.St} {tl : TE} {j : Nat} {vs : List Nat} (T : LineC K mg CL) (h : Lns CL C lrs ls H) (ht : EvL tl σ H (lrefs lrs)) (hl : ls.length ≤ 1000)
    (hw : ∀ y, wipe ((wipe σ vs).set j (some y)) vs = wipe σ vs) (hj : ∀ y, ((wipe σ vs).set j (some y))[j]? = some (some y)) : EvL (tLc (iList K tl) (gName j) tYes (tFld K (tVar j) "name") vs) σ H ((ls.map (·.name)).map fun x => .str (S x)) := by
  have lx : (lrefs lrs).length = ls.length := by unfold lrefs; rw [List.length_map, h.len]
  have g := el_lcNL (K := K) (te := tFld K (tVar j) "name") (t := tYes) (j := j) (vs := vs) (fun _ => true) (fun i => .str (S (lnth ls i).name)) ht (by rw [lx]; omega) hw (fun i x H1 e1 hx => fun H2 e2 Q q => q H2 (Ex.refl H2)) fun i x H1 e1 hx _ => by
    obtain ⟨hi, rfl⟩ := lrefs_at h hx
    exact ev_fld (ev_var (hj _)) (e1 _ _ (h.at_ i hi).ins) T.cl T.n1 rfl
  rw [lx, given_ls fun o => .str (S o.name)] at g
  rw [List.map_map]
  exact g
theorem Lns.drop {CL C : Addr} {lrs : List LRec} {ls : List Ln} {H : Hp} (h : Lns CL C lrs ls H) : Lns CL C lrs.dropLast ls.dropLast H := by
  refine ⟨by simp [h.len], fun i hi => ?_⟩
  have hi' : i < ls.length - 1 := by simpa using hi
  have e1 : LR lrs.dropLast i = LR lrs i := by
    unfold LR
    rw [List.getD_eq_getElem?_getD, List.getD_eq_getElem?_getD, List.getElem?_dropLast, if_pos (by rw [h.len]; omega)]
  have e2 : lnth ls.dropLast i = lnth ls i := by
    unfold lnth
    rw [List.getD_eq_getElem?_getD, List.getD_eq_getElem?_getD, List.getElem?_dropLast, if_pos hi']
  rw [e1, e2]
  exact h.at_ i (by omega)
theorem known_given {NM : List Wd} {l : Ln} : given l.nodes.length (fun i => decide ((nth l.nodes i).kind = [112, 97, 114, 116])) (fun i => .bl (decide ((nth l.nodes i).sign ∈ NM))) = (((l.nodes.filter fun n => decide (n.kind = [112, 97, 114, 116])).map fun n => decide (n.sign ∈ NM))).map V.bl := by
  unfold given
  conv => rhs; rw [nds_range (ns := l.nodes)]
  rw [List.filter_map, List.map_map, List.map_map]
  rfl
theorem known_all {NM : List Wd} {l : Ln} : ((l.nodes.filter fun n => decide (n.kind = [112, 97, 114, 116])).map fun n => decide (n.sign ∈ NM)).all id = known NM l := by
  unfold known
  rw [List.all_map, List.all_filter]
  rfl
/-- the state at a turn of the first loop -/
structure RI (CL C : Addr) (H0 G : Hp) (ll : Addr) (lrs : List LRec) (ls : List Ln) : Prop where
  lns : Lns CL C lrs ls G
  gl : G ll = some (.lst (lrefs lrs))
  ap : ∀ i, i < ls.length → Apart ll (LR lrs i) (lnth ls i)
  ex : Ex H0 G
  f1 : H0 ll = none
section
variable {P : Program} {w : World} {K : PySem.W.Frag} {mg : Str → Option Value} {base : Heap} {f : Addr} {fd : FuncData}
def spRP (K : PySem.W.Frag) (CB CL C : Addr) : Sp := fun vs H Q E => ∃ x, vs = [x] ∧
  ((∃ T, TyB K H x T ∧ T ≠ "str" ∧ ∀ d H', Ex H H' → H d = none → H' d = some (.xd [("value", .int 0)]) → E (.ref CB) (some d) H') ∨
  ∃ text : Wd, x = .str (S text) ∧ text.length ≤ 900 ∧ (∀ e, readProg text = .error e → ∀ d H', Ex H H' → H d = none → H' d = some (.xd [("value", .int (e : Nat))]) → E (.ref CB) (some d) H') ∧
    ∀ ls, readProg text = .ok ls → ∀ (lrs : List LRec) (ll : Addr) (H' : Hp), Ex H H' → Lns CL C lrs ls H' → H' ll = some (.lst (lrefs lrs)) → H ll = none → ls ≠ [] → ls.length ≤ 1000 → Q (.ref ll) H')
abbrev nP : List Str := ["text", "lines", "number", "told", "line", "names", "node"]
theorem scP : FnScope nP ["text"] (C8.fnScope (top 31)) := C8.fnScope_by (by decide +kernel)
theorem ok_read_program {CB fI CL C : Addr} {fdI : FuncData} (F : C8.Def K mg "read_program" (top 31) f fd) (b : Binds K fd ["text"] []) (T : Txt2 K w mg) (N : NodeC K mg C) (L : LineC K mg CL) (B : ErrC K mg "BadProgram" CB fI) (FE : FnOk P w K mg base C8.CX0 1 fI fdI ["self", "value"] (spErr K)) (bE : Binds K fdI ["self", "value"] [])
    (cT : C8.Cal P w K mg base 1 "is_text" (spIsText K) []) (cR : C8.Cal P w K mg base 5 "read_line" (spRL CL C) []) (cC : C8.Cal P w K mg base 1 "can_stand" (spCan CL C) []) : FnOk P w K mg base (L2.CX P w) 6 f fd ["text"] (spRP K CB CL C) := by
  refine fnX F.fn scP (fun vs H Q E h => by obtain ⟨x, rfl, _⟩ := h; rfl) (fun cdv A outer s H vs Q E hr h => ?_)
  obtain ⟨x, rfl, h⟩ := h
  refine ⟨_, pss_cons (ps_if (pt_not (pt_val (C8.pe_c cT hr (by decide) (by rfl) (pa_cons (pv 0) pa_nil)))) (pss_one (ps_raise rfl (takes_of rfl rfl rfl rfl) (pmk_oex B.ox B.iC B.tI FE (hr.mono (by decide)) bE .nil C8.pass0 (by rfl) B.mgC (pa_cons pe_int pa_nil)))) pss_nil)
    (pss_cons (ps_set (i := 1) scP.nd rfl (Or.inl rfl) (pe_lst pa_nil))
    (pss_cons (ps_for PassesOwn.leaving rfl (Xe.pi_enumK (by rfl) T.enum_ (by decide) (pa_cons (pe_split (pv 0) pe_str) pa_nil)) (pg_tup (by rfl) (pgs_cons (pg_name (i := 2) scP.nd rfl (.inl rfl)) (pgs_cons (pg_name (i := 3) scP.nd rfl (.inl rfl)) pgs_nil)))
      (pss_cons (ps_set (i := 4) scP.nd rfl (Or.inl rfl) (C8.pe_c cR hr (by decide) (by rfl) (pa_cons (pv 3) pa_nil)))
      (pss_cons (ps_if (pw_or (pt_cmp (pc_isN (pv 4))) (pw_or1 (pt_not (pt_val (C8.pe_c cC hr (by decide) (by rfl) (pa_cons (pv 4) (pa_cons (pv 1) pa_nil))))))).pt
          (pss_one (ps_raise rfl (takes_of rfl rfl rfl rfl) (pmk_oex B.ox B.iC B.tI FE (hr.mono (by decide)) bE .nil C8.pass0 (by rfl) B.mgC (pa_cons (pv 2) pa_nil)))) pss_nil)
      (pss_one (ps_expr (pe_bm PySem.F.plainAttrs_list PySem.F.slot_list_append PySem.F.type_list_append mt_append (pv 1) (pa_cons (pv 4) pa_nil)))))))
    (pss_cons (ps_if (pt_cmpR op_ne (pe_fld (pe_ix ix_list (pv 1) (pe_un un_neg pe_int) (fun _ _ => rfl)) rfl) pe_str (nomark _))
        (pss_one (ps_raise rfl (takes_of rfl rfl rfl rfl) (pmk_oex B.ox B.iC B.tI FE (hr.mono (by decide)) bE .nil C8.pass0 (by rfl) B.mgC (pa_cons (pe_op op_add (pe_callB call_len_seq (by rfl) T.len_ boot_len (pa_cons (pv 1) pa_nil)) pe_int) pa_nil)))) pss_nil)
    (pss_cons (ps_set (i := 5) scP.nd rfl (Or.inr rfl) (pe_lc (own := [("line", 4)]) (g := gName 4) (tt := tYes) (te := tFld K (tVar 4) "name") rfl scP.nd (pi_list (pe_slice sl_list (pv 1) po_none (po_some (pe_un un_neg pe_int)))) (blkOk_by (N := nP) (sc := C8.fnScope (top 31)) (by decide +kernel))
          (fun _ _ _ _ _ => pg_name (i := 4) scP.nd rfl (Or.inl rfl)) (fun _ _ _ _ _ => pts_nil) (fun _ _ _ _ _ => pe_fld (pv 4) (by rfl))))
    (pss_cons (ps_for PassesOwn.leaving rfl (Xe.pi_enumK (by rfl) T.enum_ (by decide) (pa_cons (pv 1) pa_nil)) (pg_tup (by rfl) (pgs_cons (pg_name (i := 2) scP.nd rfl (.inl rfl)) (pgs_cons (pg_name (i := 4) scP.nd rfl (.inl rfl)) pgs_nil)))
      (pss_one (ps_if (pt_not (pt_val (pe_callB (cr_all rfl) (by rfl) T.all_ boot_all (pa_cons (pe_lc (own := [("node", 6)]) (g := gName 6) (tt := tTest (tOp rEq (tFld K (tVar 6) "kind") (tC (.str "part")))) (te := tOp (rIn K false) (tFld K (tVar 6) "sign") (tVar 5)) rfl scP.nd (pi_list (pe_fld (pv 4) rfl)) (blkOk_by (N := nP) (sc := C8.fnScope (top 31)) (by decide +kernel))
            (fun _ _ _ _ _ => pg_name (i := 6) scP.nd rfl (Or.inl rfl)) (fun _ _ _ _ _ => pts_one (pt_cmpR op_eq (pe_fld (pv 6) (by rfl)) pe_str (nomark _))) (fun _ _ _ _ _ => pe_cmpR op_in_seq (pe_fld (pv 6) (by rfl)) (pv 5) rfl)) pa_nil))))
          (pss_one (ps_raise rfl (takes_of rfl rfl rfl rfl) (pmk_oex B.ox B.iC B.tI FE (hr.mono (by decide)) bE .nil C8.pass0 (by rfl) B.mgC (pa_cons (pv 2) pa_nil)))) pss_nil)))
    (pss_one (ps_ret (pv 1)))))))), ?_⟩
  have lrun : (Str.ofString "run" : Str) = S [114, 117, 110] := by decide
  have lpart : (Str.ofString "part" : Str) = S [112, 97, 114, 116] := by decide
  have lnlf : (Str.ofString "\n" : Str) = S [10] := by decide
  rcases h with ⟨t, ht, hne, k⟩ | ⟨text, rfl, hlt, kE, kQ⟩
  · refine q_when (b := true) (et_is (et_not (et_B (b := false) (ev_call (ea_cons (ev_var rfl) ea_nil) fun H1 e1 Q' q E' => ⟨x, t, rfl, TyB_ex ht e1, by rw [decide_eq_false hne]; exact q H1 (Ex.refl H1)⟩))) rfl) (fun _ H1 e1 => ?_) (fun z => (by cases z))
    exact r_err B (ea_cons ev_c ea_nil) fun d H' e hd hd' => k d H' (e1.trans e) (fresh_back e1 hd) hd'
  · refine q_when (b := false) (et_is (et_not (et_B (b := true) (ev_call (ea_cons (ev_var rfl) ea_nil) fun H1 e1 Q' q E' => ⟨.str (S text), "str", rfl, .str _, by rw [decide_eq_true rfl]; exact q H1 (Ex.refl H1)⟩))) rfl) (fun z => (by cases z)) (fun _ H1 e1 => ?_)
    refine q_asgL el_lst0 fun ll H2 hll e2 hl2 => ?_
    have e12 := e1.trans e2
    have hll0 : H ll = none := fresh_back e1 hll
    have hw1 : 1 ≤ (TL.spl [10] 0 [] text).length := by
      cases z : TL.spl [10] 0 [] text with
      | nil => exact absurd z spl_ne
      | cons a b => simp
    have hwl : ∀ y ∈ TL.spl [10] 0 [] text, y.length ≤ 9000 := fun y hy => by have := (@spl_len [10] text 0 []).2 y hy; simp at this; omega
    have hw2 : (TL.spl [10] 0 [] text).length ≤ 901 := by have := (@spl_len [10] text 0 []).1; omega
    have hrp : readProg text = (match linesM (TL.spl [10] 0 [] text) [] with
        | .error e => .error e
        | .ok ls => if (ls.getLastD default).name ≠ [114, 117, 110] then .error (ls.length + 1)
          else match firstUnknown (ls.dropLast.map (·.name)) 1 ls with
            | some k => .error k
            | none => .ok ls) := rfl
    generalize hts : TL.spl [10] 0 [] text = ts at *
    have lts : (ts.map fun x => V.str (S x)).length = ts.length := by simp
    refine q_forE (K := K) (xs := ts.map fun x => V.str (S x)) (by rw [← hts]; exact el_split (ev_var rfl) (by rw [← lnlf]; exact ev_c) (by decide) (by decide) (by omega))
      (fun a i σ G => G a = some (.lst (ts.map fun x => V.str (S x))) ∧ ∃ (lrs : List LRec) (ls : List Ln) (u v z : Option V), σ = [some (.str (S text)), some (.ref ll), u, v, z, none, none] ∧ RI CL C H G ll lrs ls ∧ a ≠ ll ∧ ls.length = i ∧ linesM ts [] = linesM (ts.drop i) ls) ?_ (fun a i σ G h => sq_of h.1) ?_ ?_
    · intro a H3 ha e3 ha3
      refine ⟨ha3, [], [], none, none, none, rfl, ⟨⟨rfl, fun i hi => by simp at hi⟩, e3 _ _ hl2, fun i hi => by simp at hi, e12.trans e3, hll0⟩, (fun z => (by rw [z, hl2] at ha; cases ha)), rfl, rfl⟩
    · rintro a i x σ' G T0 hx ⟨hGa, lrs, ls, u, v, z, rfl, h, hal, hli, hlm⟩ hT0
      obtain ⟨told, htold, rfl⟩ : ∃ told, ts[i]? = some told ∧ x = .str (S told) := by
        rw [List.getElem?_map] at hx
        cases q : ts[i]? with
        | none => rw [q] at hx; cases hx
        | some y => rw [q] at hx; exact ⟨y, rfl, (Option.some.inj hx).symm⟩
      have hi : i < ts.length := (List.getElem?_eq_some_iff.mp htold).1
      have hdrop : ts.drop i = told :: ts.drop (i + 1) := by
        rw [List.drop_eq_getElem_cons hi]
        have := (List.getElem?_eq_some_iff.mp htold).2
        rw [this]
      have htl : told.length ≤ 9000 := hwl _ (List.mem_of_getElem? htold)
      rw [hdrop] at hlm
      have exT : Ex G (upd G T0 (.tup [.int (1 + (i : Int)), .str (S told)])) := ex_put hT0 (Ex.refl G)
      refine g_two upd_same ?_
      have hnum : (1 + (i : Int)) = ((ls.length + 1 : Nat) : Int) := by rw [hli]; push_cast; omega
      -- what a refusal comes to
      have bad : ∀ {J : Hp} {st : L2.St}, Ex G J → linesM ts [] = .error (ls.length + 1) → st[2]? = some (some (.int (1 + (i : Int)))) → tMkO CB (spErr K) [] (tCons (tVar 2) tNil) st J fun cls d H' => E cls d H' := fun {J st} eJ hm hst => by
        refine r_err B (ea_cons (ev_var hst) ea_nil) fun d H' e hd hd' => ?_
        rw [hm] at hrp
        rw [hnum] at hd'
        exact kE _ hrp d H' ((h.ex.trans eJ).trans e) (fresh_back (h.ex.trans eJ) hd) hd'
      refine q_callA (vs := [.str (S told)]) (ea_cons (ev_var rfl) ea_nil) fun H3 e3 => ?_
      have eG3 := exT.trans e3
      refine ⟨told, rfl, htl, fun hn H4 e4 => ?_, fun l hn r H4 e4 hl4 hfw hfa hfl hfm => ?_⟩
      · refine q_when (b := true) (et_is (et_or (a := true) (b := true) (et_in (ev_var rfl)) fun z => (by cases z)) rfl) (fun _ H5 e5 => ?_) (fun z => (by cases z))
        refine bad ((eG3.trans e4).trans e5) ?_ rfl
        rw [hlm]
        show (match readLine told with
          | none => Except.error (ls.length + 1)
          | some l => if canStand l ls then linesM (ts.drop (i + 1)) (ls ++ [l]) else .error (ls.length + 1)) = _
        rw [hn]
      · have eG4 := eG3.trans e4
        have hgl4 := eG4 _ _ h.gl
        have hlm2 : linesM ts [] = if canStand l ls then linesM (ts.drop (i + 1)) (ls ++ [l]) else .error (ls.length + 1) := by
          rw [hlm]
          show (match readLine told with
            | none => Except.error (ls.length + 1)
            | some l => if canStand l ls then linesM (ts.drop (i + 1)) (ls ++ [l]) else .error (ls.length + 1)) = _
          rw [hn]
        refine q_when (b := !canStand l ls) (et_is (et_or (a := false) (b := !canStand l ls) (et_ir (ev_var rfl)) fun _ => et_not (et_B (ev_call (ea_cons (ev_var rfl) (ea_cons (ev_var rfl) ea_nil)) fun H5 e5 Q' q E' => ⟨r, l, lrs, ls, ll, rfl, hl4.ex e5, h.lns.ex (eG4.trans e5), e5 _ _ hgl4, by omega, q⟩))) rfl) (fun hb H5 e5 => ?_) (fun hb H5 e5 => ?_)
        · refine bad (eG4.trans e5) ?_ rfl
          rw [hlm2]
          have : canStand l ls = false := by simpa using hb
          rw [this]
          rfl
        · have hcs : canStand l ls = true := by simpa using hb
          rw [hcs] at hlm2
          have eG5 := eG4.trans e5
          have lxr : (lrefs lrs).length = ls.length := by unfold lrefs; rw [List.length_map, h.lns.len]
          refine s_app (eG5 _ _ h.gl) (ev_var rfl) (ev_var rfl) (by rw [lxr]; omega) fun H6 e6 => ?_
          have eG6 := eG5.trans e6
          have sep : ∀ {c : Addr}, H3 c = none → c ≠ ll := fun hc z => by rw [z, eG3 _ _ h.gl] at hc; cases hc
          have apn : Apart ll r l := ⟨sep hfl, sep hfm, fun j hj => sep (hfw j hj)⟩
          have apo : ∀ j, j < (ls ++ [l]).length → Apart ll (LR (lrs ++ [r]) j) (lnth (ls ++ [l]) j) := fun j hj => by
            by_cases z : j < ls.length
            · rw [LR_app (h.lns.len ▸ z), lnth_app z]; exact h.ap j z
            · have : j = ls.length := by simp at hj; omega
              subst this
              rw [lnth_new, ← h.lns.len, LR_new]
              exact apn
          have lns6 : Lns CL C (lrs ++ [r]) (ls ++ [l]) H6 := (h.lns.ex eG6).add (hl4.ex (e5.trans e6))
          refine ⟨(upd_ne hal).trans (eG6 _ _ hGa), lrs ++ [r], ls ++ [l], _, _, _, rfl, ⟨⟨lns6.len, fun j hj => (lns6.at_ j hj).other (eG6 _ _ h.gl) (apo j hj)⟩, ?_, apo, ex_put h.f1 (h.ex.trans eG6), h.f1⟩, hal, by simp [hli], hlm2⟩
          rw [upd_same]
          unfold lrefs
          rw [List.map_append]
          rfl
    · rintro a σ' G ⟨hGa, lrs, ls, u, v, z, rfl, h, hal, hli, hlm⟩
      rw [lts] at hli hlm
      have hlm3 : linesM ts [] = .ok ls := by
        rw [hlm, List.drop_length]
        rfl
      rw [hlm3] at hrp
      dsimp only at hrp
      have hne : ls ≠ [] := fun z => by rw [z] at hli; simp at hli; omega
      have h1l : 1 ≤ ls.length := by omega
      have lxr : (lrefs lrs).length = ls.length := by unfold lrefs; rw [List.length_map, h.lns.len]
      rw [getLastD_lnth hne] at hrp
      have lastA : (lrefs lrs).getLast? = some (.ref (LR lrs (ls.length - 1)).a) := by
        unfold lrefs LR
        rw [List.getLast?_map, List.getLast?_eq_getElem?, h.lns.len, List.getD_eq_getElem?_getD]
        have : ls.length - 1 < lrs.length := by rw [h.lns.len]; omega
        simp [this]
      have lal := (h.lns.at_ (ls.length - 1) (by omega))
      have vlast : ∀ {J : Hp} {st : L2.St}, Ex G J → st[1]? = some (some (.ref ll)) → Ev (tOp (rIxL K) (tVar 1) (tUn (rU fun i => V.int (-i)) (tC (V.int 1)))) st J (.ref (LR lrs (ls.length - 1)).a) := fun eJ hst => ev_op (ev_var hst) (ev_un ev_c ru_neg) (rv_ixL (sq_of (eJ _ _ h.gl)) (atI_last lastA))
      refine q_when (b := !decide ((lnth ls (ls.length - 1)).name = [114, 117, 110])) (et_is (et_test (ev_op (ev_fld (vlast (Ex.refl G) rfl) lal.ins L.cl L.n1 rfl) ev_c (rv_ne rfl))) (by rw [lrun, S_eqc])) (fun hb H3 e3 => ?_) (fun hb H3 e3 => ?_)
      · have hb' : (lnth ls (ls.length - 1)).name ≠ [114, 117, 110] := by simpa using hb
        rw [if_pos hb'] at hrp
        refine r_err (v := .int ((ls.length + 1 : Nat) : Int)) B (ea_cons (ev_is (ev_op (ev_len (ev_var rfl) (sq_of (e3 _ _ h.gl))) ev_c rv_I0) (by rw [lxr]; push_cast; rfl)) ea_nil) fun d H' e hd hd' => ?_
        exact kE _ hrp d H' ((h.ex.trans e3).trans e) (fresh_back (h.ex.trans e3) hd) hd'
      · have hb' : ¬ (lnth ls (ls.length - 1)).name ≠ [114, 117, 110] := by simpa using hb
        rw [if_neg hb'] at hrp
        have hcut : cutV (lrefs lrs) none (some (-1)) = lrefs lrs.dropLast := by
          rw [cut_last (fun z => by rw [z] at lxr; simp at lxr; omega)]
          unfold lrefs
          rw [List.map_dropLast]
        have nmE : EvL (tLc (iList K (tSl (rSlL K) (tVar 1) tNoPart (tPart (tUn (rU fun i => V.int (-i)) (tC (V.int 1)))))) (gName 4) tYes (tFld K (tVar 4) "name") [4]) ([some (.str (S text)), some (.ref ll), u, v, z, none, none] : L2.St) H3 ((ls.dropLast.map (·.name)).map fun x => .str (S x)) :=
          el_lnamesN L (h.lns.ex e3).drop (by rw [← hcut]; exact el_sl (ev_var rfl) eo_none (eo_some (ev_un ev_c ru_neg)) (sq_of (e3 _ _ h.gl))) (by simp; omega) (fun _ => rfl) (fun _ => rfl)
        refine q_asgL nmE fun nm H4 hnm0 e4 hnm4 => ?_
        have eG4 := e3.trans e4
        generalize hNM : ls.dropLast.map (·.name) = NM at *
        refine q_forEv (K := K) (a := ll) (xs := lrefs lrs) (ev_var rfl) (sq_of (eG4 _ _ h.gl)) (fun i σ G' => (∃ u v z, σ = [some (.str (S text)), some (.ref ll), u, v, z, some (.ref nm), none]) ∧ Ex H4 G' ∧ firstUnknown NM 1 ls = firstUnknown NM (1 + i) (ls.drop i)) (fun H5 e5 => ⟨⟨_, _, _, rfl⟩, e5, rfl⟩) (fun i σ G' hp => sq_of ((eG4.trans hp.2.1) _ _ h.gl)) ?_ ?_
        · rintro i x σ' G' T0 hx ⟨⟨u', v', z', rfl⟩, eG', hfu⟩ hT0
          obtain ⟨hi, rfl⟩ := lrefs_at h.lns hx
          have hdrop : ls.drop i = lnth ls i :: ls.drop (i + 1) := by
            rw [List.drop_eq_getElem_cons hi]
            unfold lnth
            rw [List.getD_eq_getElem?_getD, List.getElem?_eq_getElem hi]
            rfl
          rw [hdrop] at hfu
          refine g_two upd_same ?_
          have exT := ex_put (o := .tup [.int (1 + (i : Int)), .ref (LR lrs i).a]) hT0 (Ex.refl G')
          have eGT := (eG4.trans eG').trans exT
          have la := (h.lns.at_ i hi).ex eGT
          have lN := la.nds
          have lxn : (refs (LR lrs i).rs (List.range (lnth ls i).nodes.length)).length = (lnth ls i).nodes.length := by unfold refs; rw [List.length_map, List.length_range]
          have at_j : ∀ {j : Nat} {x : V}, (refs (LR lrs i).rs (List.range (lnth ls i).nodes.length))[j]? = some x → j < (lnth ls i).nodes.length ∧ x = .ref (R (LR lrs i).rs j).a := fun {j x} hv => by
            have hj : j < (lnth ls i).nodes.length := by
              have := (List.getElem?_eq_some_iff.mp hv).1
              rw [lxn] at this
              exact this
            unfold refs at hv
            rw [List.getElem?_map, List.getElem?_range hj] at hv
            exact ⟨hj, (Option.some.inj hv).symm⟩
          have allE : EvL (tLc (iList K (tFld K (tVar 4) "nodes")) (gName 6) (tTest (tOp rEq (tFld K (tVar 6) "kind") (tC (.str "part")))) (tOp (rIn K false) (tFld K (tVar 6) "sign") (tVar 5)) [6]) ([some (.str (S text)), some (.ref ll), some (.int (1 + (i : Int))), v', some (.ref (LR lrs i).a), some (.ref nm), none] : L2.St) (upd G' T0 (.tup [.int (1 + (i : Int)), .ref (LR lrs i).a]))
              (((((lnth ls i).nodes.filter fun n => decide (n.kind = [112, 97, 114, 116])).map fun n => decide (n.sign ∈ NM))).map V.bl) := by
            have g := el_lcL (K := K) (te := tOp (rIn K false) (tFld K (tVar 6) "sign") (tVar 5)) (t := tTest (tOp rEq (tFld K (tVar 6) "kind") (tC (.str "part")))) (j := 6) (vs := [6]) (σ := ([some (.str (S text)), some (.ref ll), some (.int (1 + (i : Int))), v', some (.ref (LR lrs i).a), some (.ref nm), none] : L2.St)) (H := upd G' T0 (.tup [.int (1 + (i : Int)), .ref (LR lrs i).a])) (tl := tFld K (tVar 4) "nodes")
              (fun j => decide ((nth (lnth ls i).nodes j).kind = [112, 97, 114, 116])) (fun j => .bl (decide ((nth (lnth ls i).nodes j).sign ∈ NM))) (ev_fld (ev_var rfl) la.ins L.cl L.n3 rfl) (sq_of la.nl) (by rw [lxn]; have := la.bd; omega) (fun _ => rfl) (fun j x H5 e5 hx => by
                obtain ⟨hj, rfl⟩ := at_j hx
                exact et_is (et_test (ev_op (ev_fld (ev_var rfl) (e5 _ _ (lN.at_ j hj).ins) N.cl N.n3 rfl) ev_c (rv_eq rfl))) (by rw [lpart]; exact S_eqc)) fun j x H5 e5 hx _ => by
                obtain ⟨hj, rfl⟩ := at_j hx
                exact ev_is (ev_op (ev_fld (ev_var rfl) (e5 _ _ (lN.at_ j hj).ins) N.cl N.n2 rfl) (ev_var rfl) (rv_isL (sq_of (((eG'.trans exT).trans e5) _ _ hnm4)) rfl flat_map)) (by rw [inV_map])
            rw [lxn, known_given] at g
            exact g
          refine s_when (b := !known NM (lnth ls i)) (et_not (et_is (et_B (ev_all allE)) known_all)) (fun hb5 H5 e5 => ?_) (fun hb5 H5 e5 => ?_)
          · have hk : known NM (lnth ls i) = false := by simpa using hb5
            have hfu2 : firstUnknown NM 1 ls = some (1 + i) := by
              rw [hfu]
              unfold firstUnknown
              rw [hk]
              rfl
            rw [hfu2] at hrp
            refine r_err (v := .int ((1 + i : Nat) : Int)) B (ea_cons (ev_is (ev_var rfl) (by push_cast; rfl)) ea_nil) fun d H' e hd hd' => ?_
            exact kE _ hrp d H' (((h.ex.trans eGT).trans e5).trans e) (fresh_back ((h.ex.trans eGT).trans e5) hd) hd'
          · have hk : known NM (lnth ls i) = true := by simpa using hb5
            refine ⟨⟨_, _, _, rfl⟩, (eG'.trans exT).trans e5, ?_⟩
            rw [hfu]
            conv => lhs; unfold firstUnknown
            rw [hk]
            rfl
        · rintro σ' G' ⟨⟨u', v', z', rfl⟩, eG', hfu⟩
          rw [lxr, List.drop_length] at hfu
          have hfu2 : firstUnknown NM 1 ls = none := hfu
          rw [hfu2] at hrp
          refine s_ret (ev_var rfl) fun H6 e6 => ?_
          have eA := (eG4.trans eG').trans e6
          exact kQ ls hrp lrs ll H6 (h.ex.trans eA) (h.lns.ex eA) (eA _ _ h.gl) h.f1 hne (by omega)
end
end K5
set_option Elab.async false
set_option linter.all false
set_option maxRecDepth 100000
set_option maxHeartbeats 4000000
namespace K5
open PySem PySem.Spec PyProof.Rows L2 Evl Xl SX Mi
structure ProgC (K : PySem.W.Frag) (mg : Str → Option Value) (C : Addr) : Prop where
  cl : Cls K C
  mgC : mg "Program" = some (.ref C)
  n1 : NoAttr K C "_text"
  n2 : NoAttr K C "_lines"
  n3 : NoAttr K C "_parts"
  n4 : NoAttr K C "nodes"
  n5 : NoAttr K C "_places"
  n6 : NoAttr K C "_bindings"
theorem Nds.keep {CP dx C p : Addr} {nm : V} {rs : List Rec} {ns : List Nd} {H H' : Hp} (hp : H p = some (.ins CP dx [])) (k : Keep (fun c => c = p) H H') (h : Nds C nm rs ns H) : Nds C nm rs ns H' := by
  have ne : ∀ {c : Addr} {o : HO}, H c = some o → o ≠ .ins CP dx [] → c ≠ p := fun hc ho z => by rw [z, hp] at hc; exact ho (Option.some.inj hc).symm
  exact ⟨h.len, fun i hi => ⟨k _ _ (ne (h.at_ i hi).ins fun z => by cases z) (h.at_ i hi).ins, k _ _ (ne (h.at_ i hi).tup fun z => by cases z) (h.at_ i hi).tup, k _ _ (ne (h.at_ i hi).win fun z => by cases z) (h.at_ i hi).win⟩, h.ia, h.iw⟩
theorem Lns.keep {CP dx CL C p : Addr} {lrs : List LRec} {ls : List Ln} {H H' : Hp} (hp : H p = some (.ins CP dx [])) (k : Keep (fun c => c = p) H H') (h : Lns CL C lrs ls H) : Lns CL C lrs ls H' := by
  have ne : ∀ {c : Addr} {o : HO}, H c = some o → o ≠ .ins CP dx [] → c ≠ p := fun hc ho z => by rw [z, hp] at hc; exact ho (Option.some.inj hc).symm
  refine ⟨h.len, fun i hi => ?_⟩
  have l := h.at_ i hi
  exact ⟨k _ _ (ne l.ins fun z => by cases z) l.ins, l.nds.keep hp k, k _ _ (ne l.nl fun z => by cases z) l.nl, k _ _ (ne l.nm fun z => by cases z) l.nm, l.bd⟩
/-- a walk, turn by turn -/
theorem comp_walk {J : It} {n : Nat} {Gd : Hp → Prop} {Y : Nat → Hp → V → Hp → Prop} {H0 : Hp} {Qd : Hp → Prop} {body : V → Hp → (Hp → Prop) → Prop} (wk : Walk J n Gd Y) (Pv : Nat → Hp → Prop) (h0 : Pv 0 H0) (hg : ∀ i H, i ≤ n → Pv i H → Gd H)
    (ht : ∀ i H x H', i < n → Pv i H → Y i H x H' → body x H' (Pv (i + 1))) (hd : ∀ H, Pv n H → Qd H) :
    ∃ W : Nat → Nat → Hp → Prop, (∃ m, W 0 m H0) ∧ ∀ i m H, W i m H → J.stop i H ∧ Qd H ∨ J.go i H ∧ ∃ Nx : Hp → Prop, (∀ H', Nx H' → ∃ m', m' < m ∧ W (i + 1) m' H') ∧ ∀ x H', J.yld i H x H' → body x H' Nx := by
  refine ⟨fun i m H => i ≤ n ∧ m = n - i ∧ Pv i H, ⟨n, Nat.zero_le _, rfl, h0⟩, fun i m H ⟨hi, hm, hp⟩ => ?_⟩
  by_cases z : i < n
  · exact .inr ⟨wk.goes i H z (hg i H hi hp), Pv (i + 1), fun H' p' => ⟨n - (i + 1), by omega, by omega, rfl, p'⟩, fun x H' hy => ht i H x H' z hp (wk.yields i H x H' z (hg i H hi hp) hy)⟩
  · have : i = n := by omega
    subst this
    exact .inl ⟨wk.stops H (hg i H hi hp), hd H hp⟩
/-- an expression that has some value of which Pd tells -/
def EvP (te : TE) (σ : L2.St) (H : Hp) (Pd : V → Hp → Prop) : Prop := ∀ Q : VK, (∀ v H1, Ex H H1 → Pd v H1 → Q v H1) → te σ H Q
theorem q_fldP {K : PySem.W.Frag} {ta te : TE} {σ : L2.St} {H : Hp} {f : Str} {a C dx : Addr} {fs : List (Str × V)} {Pd : V → Hp → Prop} {D : Ends} {tz : TS} (ha : H a = some (.ins C dx fs)) (h0 : Ev ta σ H (.ref a)) (h : EvP te σ H Pd) (hc : Cls K C) (hn : NoAttr K C f) (hl : fs.length < 1000) (hP : ∀ v H1 H2, Ex H H1 → Ex H1 H2 → Pd v H1 → Pd v H2)
    (k : ∀ v H1, Ex H H1 → Pd v H1 → tz D σ (upd H1 a (.ins C dx (putF f v fs)))) : tSeq (sFld K ta te f) tz D σ H :=
  h _ fun v H1 e1 hv => h0 H1 e1 _ fun H2 e2 => ⟨a, C, dx, fs, rfl, e2 _ _ (e1 _ _ ha), hc, hn, hl, k v H2 (e1.trans e2) (hP v H1 H2 e1 e2 hv)⟩
theorem s_fldP {K : PySem.W.Frag} {ta te : TE} {σ : L2.St} {H : Hp} {f : Str} {a C dx : Addr} {fs : List (Str × V)} {Pd : V → Hp → Prop} {D : Ends} (ha : H a = some (.ins C dx fs)) (h0 : Ev ta σ H (.ref a)) (h : EvP te σ H Pd) (hc : Cls K C) (hn : NoAttr K C f) (hl : fs.length < 1000)
    (k : ∀ v H1, Ex H H1 → D.nx σ (upd H1 a (.ins C dx (putF f v fs)))) : sFld K ta te f D σ H :=
  h _ fun v H1 e1 hv => h0 H1 e1 _ fun H2 e2 => ⟨a, C, dx, fs, rfl, e2 _ _ (e1 _ _ ha), hc, hn, hl, k v H2 (e1.trans e2)⟩
theorem mem_putK' {κ : Type} [DecidableEq κ] {kvs : List (κ × V)} {k : κ} {v : V} {kv : κ × V} (h : kv ∈ putK kvs k v) : kv ∈ kvs ∨ kv.2 = v := by
  unfold putK at h
  split at h
  · obtain ⟨q, hq, e⟩ := List.mem_map.mp h
    split at e
    · right; rw [← e]
    · left; rw [← e]; exact hq
  · rcases List.mem_append.mp h with h | h
    · exact .inl h
    · right
      rw [List.mem_singleton.mp h]
theorem evP_tup {K : PySem.W.Frag} {te : TE} {σ : L2.St} {H : Hp} (h : EvP te σ H fun v H1 => ∃ p xs, v = .ref p ∧ H1 p = some (.lst xs)) : EvP (tThen te (kTup K)) σ H fun _ _ => True :=
  fun Q q => h _ fun v H1 e1 ⟨p, xs, hv, hp⟩ => .inl ⟨p, xs, hv, sq_of hp, fun t ht => q _ _ (e1.trans (ex_put ht (Ex.refl H1))) trivial⟩
theorem evP_L {te : TE} {σ : L2.St} {H : Hp} {xs : List V} (h : EvL te σ H xs) : EvP te σ H fun v H1 => ∃ p xs, v = .ref p ∧ H1 p = some (.lst xs) :=
  fun Q q => h H (Ex.refl H) _ fun p H1 _ e1 hp => q _ _ e1 ⟨p, xs, rfl, hp⟩
theorem evP_lines {K : PySem.W.Frag} {mg : Str → Option Value} {CL C : Addr} {lrs : List LRec} {ls : List Ln} {H : Hp} {σ : L2.St} {ll : Addr} {tl : TE} {j : Nat} {vs : List Nat} (T : LineC K mg CL) (h : Lns CL C lrs ls H) (hl : H ll = some (.lst (lrefs lrs))) (ht : Ev tl σ H (.ref ll)) (hn : ls.length ≤ 1000)
    (hw : ∀ y, wipe ((wipe σ vs).set j (some y)) vs = wipe σ vs) (hj : ∀ y, ((wipe σ vs).set j (some y))[j]? = some (some y)) : EvP (tDc (iList K tl) (gName j) tYes (tFld K (tVar j) "name") (tFld K (tVar j) "told") vs) σ H fun _ _ => True := by
  have lx : (lrefs lrs).length = ls.length := by unfold lrefs; rw [List.length_map, h.len]
  refine fun Q q => ht H (Ex.refl H) _ fun H1 e1 => ⟨ll, rfl, ⟨_, sq_of (e1 _ _ hl)⟩, fun D hD => ?_⟩
  refine comp_walk (body := fun x H' Nx => gName j x (wipe σ vs) H' fun σ2 H2 => wipe σ2 vs = wipe σ vs ∧ tYes σ2 H2 fun b H3 => if b = true then tFld K (tVar j) "name" σ2 H3 fun y H4 => tFld K (tVar j) "told" σ2 H4 fun z H5 => ∃ kvs k, y = kV k ∧ H5 D = some (.dK kvs) ∧ kvs.length < sizeLine ∧ Nx (upd H5 D (.dK (putK kvs k z))) else Nx H3)
    (walk_list (K := K) (a := ll) (xs := lrefs lrs)) (fun i G => Ex H1 G ∧ ∃ kvs, G D = some (.dK kvs) ∧ kvs.length ≤ i) ⟨ex_put hD (Ex.refl H1), [], upd_same, Nat.le_refl _⟩ (fun i G _ hp => sq_of (hp.1 _ _ (e1 _ _ hl))) (fun i G x G' hi hp hy => ?_) (fun G hp => q _ _ (e1.trans hp.1) trivial)
  obtain ⟨rfl, hx⟩ := hy
  obtain ⟨eG, kvs, hk, hkl⟩ := hp
  obtain ⟨hi2, rfl⟩ := lrefs_at h hx
  have la := (h.at_ i hi2).ex (e1.trans eG)
  refine ⟨hw _, ?_⟩
  refine ⟨_, hj _, _, CL, _, _, _, rfl, la.ins, T.cl, T.n1, rfl, ?_⟩
  refine ⟨_, hj _, _, CL, _, _, _, rfl, la.ins, T.cl, T.n2, rfl, kvs, .inr (S (lnth ls i).name), rfl, hk, by rw [sizeLine_eq]; rw [lx] at hi; omega, ?_⟩
  exact ⟨ex_put hD eG, _, upd_same, Nat.le_trans (length_putK _ _ _) (by omega)⟩
theorem q_callS {sp : Sp} {vs : List V} {E : L2.St → XK} {ta : TA} {σ : L2.St} {H : Hp} {D : Ends} {tz : TS} {i : Nat} (h : EvA ta σ H vs) (k : ∀ H1, Ex H H1 → sp vs H1 (fun v H2 => tz D (σ.set i (some v)) H2) (E σ)) : tSeq (tAsg (tCallS sp E ta) (gName i)) tz D σ H :=
  h H (Ex.refl H) _ fun H1 e1 => k H1 e1
/-- a node of one of the lines -/
def IsNd (lrs : List LRec) (ls : List Ln) (v : V) : Prop := ∃ i j, i < ls.length ∧ j < (lnth ls i).nodes.length ∧ v = .ref (R (LR lrs i).rs j).a
theorem refs_at {rs : List Rec} {n j : Nat} {x : V} (hv : (refs rs (List.range n))[j]? = some x) : j < n ∧ x = .ref (R rs j).a := by
  have hj : j < n := by
    have := (List.getElem?_eq_some_iff.mp hv).1
    unfold refs at this
    rw [List.length_map, List.length_range] at this
    exact this
  unfold refs at hv
  rw [List.getElem?_map, List.getElem?_range hj] at hv
  exact ⟨hj, (Option.some.inj hv).symm⟩
theorem evP_nodes {K : PySem.W.Frag} {mg : Str → Option Value} {CL C : Addr} {lrs : List LRec} {ls : List Ln} {H : Hp} {ll : Addr} {a0 a1 a3 a4 a5 : Option V} (T : LineC K mg CL) (N : NodeC K mg C) (h : Lns CL C lrs ls H) (hl : H ll = some (.lst (lrefs lrs))) (hn : ls.length ≤ 1000) :
    EvP (Xd.tDc2 (iList K (tVar 2)) (gName 3) (iList K (tFld K (tVar 3) "nodes")) (gName 4) (tFld K (tVar 4) "place") (tVar 4) [3, 4] [4]) ([a0, a1, some (.ref ll), a3, a4, a5] : L2.St) H fun v H1 => ∃ D kvs, v = .ref D ∧ H1 D = some (.dT kvs) ∧ kvs.length ≤ 1000000 ∧ ∀ kv ∈ kvs, IsNd lrs ls kv.2 := by
  have lx : (lrefs lrs).length = ls.length := by unfold lrefs; rw [List.length_map, h.len]
  refine fun Q q => ⟨_, rfl, ll, rfl, ⟨_, sq_of hl⟩, fun D hD => ?_⟩
  refine comp_walk (body := fun x H' Nx => gName 3 x (wipe ([a0, a1, some (.ref ll), a3, a4, a5] : L2.St) [3, 4]) H' fun σ2 H2 => wipe σ2 [3, 4] = wipe ([a0, a1, some (.ref ll), a3, a4, a5] : L2.St) [3, 4] ∧
    iList K (tFld K (tVar 3) "nodes") σ2 H2 fun J1 H3 => ∃ W1 : Nat → Nat → Hp → Prop, (∃ m, W1 0 m H3) ∧ ∀ j k H, W1 j k H → (J1.stop j H ∧ Nx H) ∨ (J1.go j H ∧ ∃ Nx1 : Hp → Prop, (∀ H', Nx1 H' → ∃ k', k' < k ∧ W1 (j + 1) k' H') ∧
      ∀ y H', J1.yld j H y H' → gName 4 y (wipe σ2 [4]) H' fun σ3 H4 => wipe σ3 [4] = wipe σ2 [4] ∧ tFld K (tVar 4) "place" σ3 H4 fun ky H5 => tVar 4 σ3 H5 fun z H6 => ∃ (b : Addr) (key : List Key) (kvs : List (List Key × V)), ky = .ref b ∧ H6 b = some (.tup (key.map kV)) ∧
        H6 D = some (.dT kvs) ∧ kvs.length < sizeLine ∧ Nx1 (upd H6 D (.dT (putK kvs key z)))))
    (walk_list (K := K) (a := ll) (xs := lrefs lrs)) (fun i G => Ex H G ∧ ∃ kvs, G D = some (.dT kvs) ∧ kvs.length ≤ i * 300 ∧ ∀ kv ∈ kvs, IsNd lrs ls kv.2) ⟨ex_put hD (Ex.refl H), [], upd_same, Nat.zero_le _, fun kv hk => by cases hk⟩ (fun i G _ hp => sq_of (hp.1 _ _ hl)) (fun i G x G' hi hp hy => ?_)
    (fun G hp => by obtain ⟨e, kvs, h1, h3, h2⟩ := hp; rw [lx] at h3; exact q _ _ e ⟨D, kvs, rfl, h1, by omega, h2⟩)
  obtain ⟨rfl, hx⟩ := hy
  obtain ⟨eG, kvs, hk, hkl, hkn⟩ := hp
  obtain ⟨hi2, rfl⟩ := lrefs_at h hx
  have la := (h.at_ i hi2).ex eG
  refine ⟨rfl, _, rfl, _, CL, _, _, _, rfl, la.ins, T.cl, T.n3, rfl, _, rfl, ⟨_, sq_of la.nl⟩, ?_⟩
  have lxn : (refs (LR lrs i).rs (List.range (lnth ls i).nodes.length)).length = (lnth ls i).nodes.length := by unfold refs; rw [List.length_map, List.length_range]
  refine comp_walk (body := fun y H' Nx1 => gName 4 y (wipe (([a0, a1, some (.ref ll), some (.ref (LR lrs i).a), none, a5] : L2.St)) [4]) H' fun σ3 H4 => wipe σ3 [4] = wipe (([a0, a1, some (.ref ll), some (.ref (LR lrs i).a), none, a5] : L2.St)) [4] ∧ tFld K (tVar 4) "place" σ3 H4 fun ky H5 => tVar 4 σ3 H5 fun z H6 => ∃ (b : Addr) (key : List Key) (kvs : List (List Key × V)), ky = .ref b ∧ H6 b = some (.tup (key.map kV)) ∧
        H6 D = some (.dT kvs) ∧ kvs.length < sizeLine ∧ Nx1 (upd H6 D (.dT (putK kvs key z))))
    (walk_list (K := K) (a := (LR lrs i).nl) (xs := refs (LR lrs i).rs (List.range (lnth ls i).nodes.length))) (fun j G2 => Ex H G2 ∧ ∃ kvs, G2 D = some (.dT kvs) ∧ kvs.length ≤ i * 300 + j ∧ ∀ kv ∈ kvs, IsNd lrs ls kv.2) ⟨eG, kvs, hk, hkl, hkn⟩ (fun j G2 _ hp => sq_of ((h.at_ i hi2).ex hp.1).nl) (fun j G2 y G2' hj hp hy => ?_)
    (fun G2 hp => by
      obtain ⟨e, kvs, h1, h2, h3⟩ := hp
      rw [lxn] at h2
      have := la.bd
      exact ⟨e, kvs, h1, by omega, h3⟩)
  obtain ⟨rfl, hy⟩ := hy
  obtain ⟨eG2, kvs2, hk2, hkl2, hkn2⟩ := hp
  obtain ⟨hj2, rfl⟩ := refs_at hy
  have ln := ((h.at_ i hi2).ex eG2).nds.at_ j hj2
  rw [lxn] at hj
  have lb := la.bd
  refine ⟨rfl, _, rfl, _, C, _, _, _, rfl, ln.ins, N.cl, N.n1, rfl, _, rfl, _, [.inr (S (lnth ls i).name), .inl ((nth (lnth ls i).nodes j).at_ : Int)], kvs2, rfl, ln.tup, hk2, by rw [sizeLine_eq]; rw [lx] at hi; omega, ex_put hD eG2, _, upd_same, Nat.le_trans (length_putK _ _ _) (by omega), fun kv hkv => ?_⟩
  rcases mem_putK' hkv with z | z
  · exact hkn2 kv z
  · rw [z]; exact ⟨i, j, hi2, hj2, rfl⟩
theorem ev_dget {td ty : TE} {σ : L2.St} {H : Hp} {a : Addr} {y v : V} (h : Ev td σ H (.ref a)) (hy : Ev ty σ H y) (hd : ∀ H1, Ex H H1 → DGet H1 a y (some v)) : Ev (tDGet td ty) σ H v :=
  fun H1 e Q q => h H1 e _ fun H2 e2 => hy H2 (e.trans e2) _ fun H3 e3 => ⟨a, v, rfl, hd H3 ((e.trans e2).trans e3), q H3 (e2.trans e3)⟩
theorem valV_at {kvs : List (List Key × V)} {i : Nat} {k : List Key} {v : V} (h : kvs[i]? = some (k, v)) : ∃ v', valV kvs k = some v' ∧ ∃ kv ∈ kvs, kv.2 = v' := by
  have hm : (k, v) ∈ kvs := List.mem_of_getElem? h
  unfold valV
  cases hf : kvs.find? (fun kv => decide (kv.1 = k)) with
  | none =>
    have := List.find?_eq_none.mp hf _ hm
    simp at this
  | some kv => exact ⟨kv.2, rfl, kv, List.mem_of_find?_eq_some hf, rfl⟩
theorem evP_binds {K : PySem.W.Frag} {mg : Str → Option Value} {CP dx CL C p D pw : Addr} {lrs : List LRec} {ls : List Ln} {H : Hp} {fs : List (Str × V)} {kvs : List (List Key × V)} {ws : List Wd} {a1 a2 a3 a4 a5 : Option V} (G : ProgC K mg CP) (N : NodeC K mg C) (h : Lns CL C lrs ls H) (hp : H p = some (.ins CP dx fs)) (hf : fs.lookup ("nodes" : Str) = some (.ref D)) (hD : H D = some (.dT kvs)) (hk : ∀ kv ∈ kvs, IsNd lrs ls kv.2)
    (hn : kvs.length ≤ 1000000) (hw : ∀ H, SqT K H pw (ws.map fun x => .str (S x))) :
    EvP (tLockE (tLc (iKeys (tFld K (tVar 0) "nodes")) (gName 5) (tTest (tOp (rIn K false) (tFld K (tDGet (tFld K (tVar 0) "nodes") (tVar 5)) "kind") (tC (.ref pw)))) (tVar 5) [5])) ([some (.ref p), a1, a2, a3, a4, a5] : L2.St) H fun v H1 => ∃ q xs, v = .ref q ∧ H1 q = some (.lst xs) := by
  refine fun Q q => ⟨D, .dT kvs, hD, trivial, fun od => ?_⟩
  have hpD : p ≠ D := fun z => by rw [z, hD] at hp; cases hp
  have hp1 : (upd H D (.frz od (.dT kvs))) p = some (.ins CP dx fs) := (upd_ne hpD).trans hp
  have hD1 : (upd H D (.frz od (.dT kvs))) D = some (.frz od (.dT kvs)) := upd_same
  refine ⟨_, rfl, p, CP, dx, fs, _, rfl, hp1, G.cl, G.n4, hf, D, od, rfl, .inr ⟨kvs, hD1, fun DL hDL => ?_⟩⟩
  have hne : DL ≠ D := fun z => by rw [z, hD1] at hDL; cases hDL
  refine comp_walk (body := fun x H' Nx => gName 5 x (wipe ([some (.ref p), a1, a2, a3, a4, a5] : L2.St) [5]) H' fun σ2 H2 => wipe σ2 [5] = wipe ([some (.ref p), a1, a2, a3, a4, a5] : L2.St) [5] ∧ (tTest (tOp (rIn K false) (tFld K (tDGet (tFld K (tVar 0) "nodes") (tVar 5)) "kind") (tC (.ref pw)))) σ2 H2 fun b H3 => if b = true then tVar 5 σ2 H3 fun y H4 => ∃ acc, H4 DL = some (.lst acc) ∧ acc.length < sizeLine ∧ Nx (upd H4 DL (.lst (acc ++ [y]))) else Nx H3)
    (walk_keysT (d := D) (o := od) (kvs := kvs)) (fun i G' => Ex (upd H D (.frz od (.dT kvs))) G' ∧ ∃ acc, G' DL = some (.lst acc) ∧ acc.length ≤ i) ⟨ex_put hDL (Ex.refl _), [], upd_same, Nat.le_refl _⟩ (fun i G' _ hp => hp.1 _ _ hD1) (fun i G' x G2 hi hpv hy => ?_) (fun G' hpv => ?_)
  · obtain ⟨rfl, k, v, t, hkv, rfl, ht⟩ := hy
    obtain ⟨eG, acc, ha, hal⟩ := hpv
    obtain ⟨v', hv', kv, hkm, hkv'⟩ := valV_at hkv
    obtain ⟨i2, j2, hi2, hj2, hvr⟩ := hk kv hkm
    rw [hkv'] at hvr
    subst hvr
    have ln := (h.at_ i2 hi2).nds.at_ j2 hj2
    have lnD : (R (LR lrs i2).rs j2).a ≠ D := fun z => by have := ln.ins; rw [z, hD] at this; cases this
    have lni := eG _ _ ((upd_ne lnD).trans ln.ins)
    refine ⟨rfl, ?_⟩
    have tt : EvT (tTest (tOp (rIn K false) (tFld K (tDGet (tFld K (tVar 0) "nodes") (tVar 5)) "kind") (tC (.ref pw)))) ([some (.ref p), a1, a2, a3, a4, some (.ref t)] : L2.St) G2 (decide ((nth (lnth ls i2).nodes j2).kind ∈ ws)) :=
      et_is (et_test (ev_op (ev_fld (ev_dget (a := D) (y := .ref t) (ev_fld (ev_var rfl) (eG _ _ hp1) G.cl G.n4 hf) (ev_var rfl) fun H1 e1 => .inr ⟨kvs, k, t, .inr ⟨od, e1 _ _ (eG _ _ hD1)⟩, rfl, e1 _ _ ht, hv'.symm⟩) lni N.cl N.n3 rfl) ev_c (rv_inT (hw G2) rfl flat_map))) inV_map
    refine tt G2 (Ex.refl G2) _ fun H3 e3 => ?_
    cases hb : decide ((nth (lnth ls i2).nodes j2).kind ∈ ws) with
    | true =>
      rw [if_pos rfl]
      exact ⟨_, rfl, acc, e3 _ _ ha, by rw [sizeLine_eq]; omega, ex_put hDL (eG.trans e3), _, upd_same, by rw [List.length_append]; simp; exact hal⟩
    | false =>
      rw [if_neg (by simp)]
      exact ⟨eG.trans e3, acc, e3 _ _ ha, by omega⟩
  · obtain ⟨eG, acc, ha, hal⟩ := hpv
    refine ⟨eG _ _ hD1, q _ _ (fun c o hc => ?_) ⟨DL, acc, rfl, (upd_ne hne).trans ha⟩⟩
    by_cases z : c = D
    · rw [z, upd_same]; rw [z, hD] at hc; exact hc
    · rw [upd_ne z]
      exact eG _ _ ((upd_ne z).trans hc)
section
variable {P : Program} {w : World} {K : PySem.W.Frag} {mg : Str → Option Value} {base : Heap} {f : Addr} {fd : FuncData}
def spPr (K : PySem.W.Frag) (CB CP : Addr) : Sp := fun vs H Q E => ∃ (p dx : Addr) (x : V), vs = [.ref p, x] ∧ H p = some (.ins CP dx []) ∧
  ((∃ T, TyB K H x T ∧ T ≠ "str" ∧ ∀ d H', Ex H H' → H d = none → H' d = some (.xd [("value", .int 0)]) → E (.ref CB) (some d) H') ∨
  ∃ text : Wd, x = .str (S text) ∧ text.length ≤ 900 ∧ (∀ e, readProg text = .error e → ∀ d H', Ex H H' → H d = none → H' d = some (.xd [("value", .int (e : Nat))]) → E (.ref CB) (some d) H') ∧
    ∀ ls, readProg text = .ok ls → ∀ H', Keep (fun c => c = p) H H' → Q .non H')
abbrev nG : List Str := ["self", "text", "lines", "line", "node", "place"]
abbrev sProg : Stmt := inClass (top 36) 0
theorem scG : FnScope nG ["self", "text"] (C8.fnScope sProg) := C8.fnScope_by (by decide +kernel)
theorem ok_program {CB CP CL C fR : Addr} {fdR : FuncData} (F : C8.Fun K "__init__" "Program.__init__" sProg f fd) (T : Txt2 K w mg) (G : ProgC K mg CP) (N : NodeC K mg C) (L : LineC K mg CL)
    (FR : FnOk P w K mg base (L2.CX P w) 6 fR fdR ["text"] (spRP K CB CL C)) (mR : mg "read_program" = some (.ref fR)) (kR : PySem.W.keepIn K (.ref fR) = true) (bR : Binds K fdR ["text"] []) : FnOk P w K mg base (L2.CX P w) 7 f fd ["self", "text"] (spPr K CB CP) := by
  obtain ⟨pw, mw, hw⟩ := T.bwords
  refine fnX F scG (fun vs H Q E h => by obtain ⟨p, dx, x, rfl, _⟩ := h; rfl) (fun cdv A outer s H vs Q E hr h => ?_)
  obtain ⟨p, dx, x, rfl, hp, h⟩ := h
  refine ⟨_, pss_cons (ps_set (i := 2) scG.nd rfl (Or.inl rfl) (pe_callS FR hr (by rfl) mR kR bR (fun σ => passAt (takes_of rfl rfl rfl rfl) σ) (pa_cons (pv 1) pa_nil)))
    (pss_cons (ps_fld (pv 0) (pv 1) rfl)
    (pss_cons (ps_fld (pv 0) (pe_dc (own := [("line", 3)]) (g := gName 3) (tt := tYes) (tk := tFld K (tVar 3) "name") (tv := tFld K (tVar 3) "told") rfl scG.nd (pi_list (pv 2)) (blkOk_by (N := nG) (sc := C8.fnScope sProg) (by decide +kernel))
        (fun _ _ _ _ _ => pg_name (i := 3) scG.nd rfl (Or.inl rfl)) (fun _ _ _ _ _ => pts_nil) (fun _ _ _ _ _ => pe_fld (pv 3) (by rfl)) (fun _ _ _ _ _ => pe_fld (pv 3) (by rfl))) rfl)
    (pss_cons (ps_fld (pv 0) (pe_tupleOf (by rfl) T.tuple_ (pe_lc (own := [("line", 3)]) (g := gName 3) (tt := tYes) (te := tFld K (tVar 3) "name") rfl scG.nd (pi_list (pe_slice sl_list (pv 2) po_none (po_some (pe_un un_neg pe_int)))) (blkOk_by (N := nG) (sc := C8.fnScope sProg) (by decide +kernel))
        (fun _ _ _ _ _ => pg_name (i := 3) scG.nd rfl (Or.inl rfl)) (fun _ _ _ _ _ => pts_nil) (fun _ _ _ _ _ => pe_fld (pv 3) (by rfl)))) rfl)
    (pss_cons (ps_fld (pv 0) (Xd.pe_dc2 (own := [("line", 3), ("node", 4)]) (vs1 := [4]) (g := gName 3) (g1 := gName 4) (wi1 := iList K (tFld K (tVar 3) "nodes")) (tk := tFld K (tVar 4) "place") (tv := tVar 4) rfl (Nat.lt_of_le_of_lt (Nat.le_trans (Nat.le_add_right _ _) (Nat.le_add_right _ _)) hr.un) scG.nd (pi_list (pv 2)) (blkOk_by (N := nG) (sc := C8.fnScope sProg) (by decide +kernel)) (by decide)
        (fun _ _ _ _ _ => pg_name (i := 3) scG.nd rfl (Or.inl rfl)) (fun _ _ _ _ _ => pi_list (pe_fld (pv 3) (by rfl))) (fun _ _ _ _ _ => pg_name (i := 4) scG.nd rfl (Or.inl rfl)) (fun _ _ _ _ _ => pe_fld (pv 4) (by rfl)) (fun _ _ _ _ _ => pv 4)) rfl)
    (pss_cons (ps_fld (pv 0) (pe_tupleOf (by rfl) T.tuple_ (pe_callTy (call_list_dT rfl) (by rfl) T.list_ (by decide +kernel) (pa_cons (pe_fld (pv 0) rfl) pa_nil))) rfl)
    (pss_one (ps_fld (pv 0) (pe_tupleOf (by rfl) T.tuple_ (pe_lock (pe_lc (own := [("place", 5)]) (g := gName 5) (tt := tTest (tOp (rIn K false) (tFld K (tDGet (tFld K (tVar 0) "nodes") (tVar 5)) "kind") (tC (.ref pw)))) (te := tVar 5) rfl scG.nd (pi_keys (pe_fld (pv 0) rfl)) (blkOk_by (N := nG) (sc := C8.fnScope sProg) (by decide +kernel))
        (fun _ _ _ _ _ => pg_name (i := 5) scG.nd rfl (Or.inl rfl)) (fun _ _ _ _ _ => pts_one (pt_cmpR op_in_seq (pe_fld (pe_dget (by have := hr.un; show (A.deeper (envOfC "Program.__init__" (C8.fnScope sProg) s.heap.objs.size f cdv)).units + 1 < cLine; omega) (pe_fld (pv 0) (by rfl)) (pv 5) (fun _ _ => rfl)) (by rfl)) (pe_glob (v := .ref pw) (by rfl) mw rfl) rfl)) (fun _ _ _ _ _ => pv 5)))) rfl))))))), ?_⟩
  refine q_callS (vs := [x]) (ea_cons (ev_var rfl) ea_nil) fun H0 e0 => ⟨x, rfl, ?_⟩
  rcases h with ⟨t, ht, hne, k⟩ | ⟨text, rfl, hlt, kE, kQ⟩
  · exact .inl ⟨t, TyB_ex ht e0, hne, fun d H' e hd hd' => k d H' (e0.trans e) (fresh_back e0 hd) hd'⟩
  · refine .inr ⟨text, rfl, hlt, fun e he d H' ee hd hd' => kE e he d H' (e0.trans ee) (fresh_back e0 hd) hd', fun ls hls lrs ll H1 e1 hL hll hll0 hne hln => ?_⟩
    have e01 := e0.trans e1
    have hp1 := e01 _ _ hp
    have k0 := kQ ls hls
    have nxt : ∀ {G G' : Hp} {fs : List (Str × V)}, Keep (fun c => c = p) H1 G → Ex G G' → Keep (fun c => c = p) H1 (upd G' p (.ins CP dx fs)) := fun kk ee => (kk.ex ee).put rfl
    have hpl : ll ≠ p := fun z => by rw [z, hp1] at hll; cases hll
    refine q_fld hp1 (ev_var rfl) (v := .str (S text)) (ev_var rfl) G.cl G.n1 (by show 0 < 1000; decide) fun H2 e2 => ?_
    have kk2 := nxt (fs := putF "_text" (.str (S text)) []) (Keep.refl (fun c => c = p) H1) e2
    refine q_fldP (Pd := fun _ _ => True) upd_same (ev_var rfl) (evP_lines (j := 3) (ll := ll) L (hL.keep hp1 kk2) (kk2 _ _ hpl hll) (ev_var rfl) hln (fun _ => rfl) (fun _ => rfl)) G.cl G.n2 (by show 1 < 1000; decide) (fun _ _ _ _ _ h => h) fun v3 H3 e3 _ => ?_
    have kk3 := nxt (fs := putF "_lines" v3 (putF "_text" (.str (S text)) [])) kk2 e3
    have cut : EvL (tSl (rSlL K) (tVar 2) tNoPart (tPart (tUn (rU fun i => V.int (-i)) (tC (V.int 1))))) ([some (.ref p), some (.str (S text)), some (.ref ll), none, none, none] : L2.St) (upd H3 p (.ins CP dx (putF "_lines" v3 (putF "_text" (.str (S text)) [])))) (lrefs lrs.dropLast) := by
      have hcut : cutV (lrefs lrs) none (some (-1)) = lrefs lrs.dropLast := by
        rw [cut_last (fun z => by
          have lx : (lrefs lrs).length = ls.length := by unfold lrefs; rw [List.length_map, hL.len]
          rw [z] at lx
          cases ls with
          | nil => exact hne rfl
          | cons a b => simp at lx)]
        unfold lrefs
        rw [List.map_dropLast]
      rw [← hcut]
      exact el_sl (ev_var rfl) eo_none (eo_some (ev_un ev_c ru_neg)) (sq_of (kk3 _ _ hpl hll))
    refine q_fldP (Pd := fun _ _ => True) upd_same (ev_var rfl) (evP_tup (evP_L (el_lnamesN (j := 3) L (hL.keep hp1 kk3).drop cut (by simp; omega) (fun _ => rfl) (fun _ => rfl)))) G.cl G.n3 (by show 2 < 1000; decide) (fun _ _ _ _ _ h => h) fun v4 H4 e4 _ => ?_
    have kk4 := nxt (fs := putF "_parts" v4 (putF "_lines" v3 (putF "_text" (.str (S text)) []))) kk3 e4
    refine q_fldP upd_same (ev_var rfl) (evP_nodes (ll := ll) L N (hL.keep hp1 kk4) (kk4 _ _ hpl hll) hln) G.cl G.n4 (by show 3 < 1000; decide) (fun v A1 A2 _ ee ⟨D, kvs, a, b, c, d⟩ => ⟨D, kvs, a, ee _ _ b, c, d⟩) fun v5 H5 e5 hv5 => ?_
    obtain ⟨D, kvs, rfl, hD5, hkl, hkn⟩ := hv5
    have hDp : D ≠ p := fun z => by
      have := e5 _ _ (upd_same (H := H4) (a := p) (o := .ins CP dx (putF "_parts" v4 (putF "_lines" v3 (putF "_text" (.str (S text)) [])))))
      rw [← z, hD5] at this
      cases this
    have kk5 := nxt (fs := putF "nodes" (.ref D) (putF "_parts" v4 (putF "_lines" v3 (putF "_text" (.str (S text)) [])))) kk4 e5
    have hD5' : (upd H5 p (.ins CP dx (putF "nodes" (.ref D) (putF "_parts" v4 (putF "_lines" v3 (putF "_text" (.str (S text)) [])))))) D = some (.dT kvs) := (upd_ne hDp).trans hD5
    refine q_fldP (Pd := fun _ _ => True) upd_same (ev_var rfl) (evP_tup ?_) G.cl G.n5 (by show 4 < 1000; decide) (fun _ _ _ _ _ h => h) fun v6 H6 e6 _ => ?_
    · refine fun Q' q => ⟨_, rfl, p, CP, dx, _, _, rfl, upd_same, G.cl, G.n4, rfl, D, kvs, rfl, .inl hD5', fun t bs ht _ => q _ _ (ex_put ht (Ex.refl _)) ⟨t, _, rfl, upd_same⟩⟩
    · have kk6 := nxt (fs := putF "_places" v6 (putF "nodes" (.ref D) (putF "_parts" v4 (putF "_lines" v3 (putF "_text" (.str (S text)) []))))) kk5 e6
      refine s_fldP upd_same (ev_var rfl) (evP_tup (evP_binds (ws := [[99, 97, 108, 108], [108, 101, 116], [112, 97, 105, 114]]) G N (hL.keep hp1 kk6) upd_same rfl ((upd_ne hDp).trans (e6 _ _ hD5')) hkn hkl hw)) G.cl G.n6 (by show 5 < 1000; decide) fun v7 H7 e7 => ?_
      exact k0 _ (fun c o hc hh => nxt kk6 e7 c o hc (e01 _ _ hh))
end
end K5
set_option Elab.async false
set_option linter.all false
set_option maxRecDepth 100000
set_option maxHeartbeats 4000000
namespace K5
open PySem PySem.Spec PyProof.Rows L2 Evl Xl SX Mi
theorem putK_new {κ : Type} [DecidableEq κ] {kvs : List (κ × V)} {k : κ} {v : V} (h : ∀ kv ∈ kvs, kv.1 ≠ k) : putK kvs k v = kvs ++ [(k, v)] := by
  unfold putK
  rw [if_neg]
  intro z
  obtain ⟨kv, hm, e⟩ := List.any_eq_true.mp z
  exact h kv hm (of_decide_eq_true e)
theorem canStand_new {l : Ln} {ls : List Ln} (h : canStand l ls = true) : l.name ∉ ls.map (·.name) := by
  intro hm
  unfold canStand at h
  simp only at h
  rw [if_pos (.inr hm)] at h
  cases h
theorem linesM_nodup : ∀ {ts : List Wd} {ls0 ls : List Ln}, linesM ts ls0 = .ok ls → (ls0.map (·.name)).Nodup → (ls.map (·.name)).Nodup := by
  intro ts
  induction ts with
  | nil => intro ls0 ls h hn; cases h; exact hn
  | cons t r ih =>
    intro ls0 ls h hn
    unfold linesM at h
    cases hr : readLine t with
    | none => rw [hr] at h; cases h
    | some l =>
      rw [hr] at h
      dsimp only at h
      by_cases hc : canStand l ls0 = true
      · rw [if_pos hc] at h
        refine ih h ?_
        rw [List.map_append, List.nodup_append]
        refine ⟨hn, by simp, fun a ha b hb => ?_⟩
        have hb2 : b = l.name := by simpa using hb
        rw [hb2]
        exact fun e => canStand_new hc (e ▸ ha)
      · rw [if_neg hc] at h; cases h
/-- the numbers of the nodes rise -/
def Rise (ns : List Nd) (b : Nat) : Prop := (∀ j, j < ns.length → (nth ns j).at_ < b) ∧ ∀ i j, i < j → j < ns.length → (nth ns i).at_ < (nth ns j).at_
theorem rise_hang {ns : List Nd} {wt : List Nat} {x : Nd} {b b' : Nat} (h : Rise ns b) (hx : x.at_ = b) (hb : b < b') : Rise (addIn (ns ++ [x]) wt ns.length) b' := by
  have hl : (addIn (ns ++ [x]) wt ns.length).length = ns.length + 1 := by rw [addIn_len]; simp
  have e : ∀ j, j < ns.length + 1 → (nth (addIn (ns ++ [x]) wt ns.length) j).at_ = (nth (ns ++ [x]) j).at_ := fun j hj => by
    rw [addIn_nth (by simp; exact hj)]
    split <;> rfl
  refine ⟨fun j hj => ?_, fun i j hij hj => ?_⟩
  · rw [hl] at hj
    rw [e j hj]
    by_cases z : j < ns.length
    · rw [nth_app z]; have := h.1 j z; omega
    · have : j = ns.length := by omega
      rw [this, nth_new]; omega
  · rw [hl] at hj
    rw [e i (by omega), e j hj, nth_app (i := i) (by omega)]
    by_cases z : j < ns.length
    · rw [nth_app z]; exact h.2 i j hij z
    · have : j = ns.length := by omega
      rw [this, nth_new, hx]; exact h.1 i (by omega)
theorem loopM_rise {ws : List Wd} : ∀ {f : Nat} {ns : List Nd} {wt : List Nat} {at_ : Nat} {ns' : List Nd} {wt' : List Nat}, loopM ws f ns wt at_ = some (ns', wt') → Rise ns at_ → ∃ b, Rise ns' b := by
  intro f
  induction f with
  | zero => intro ns wt at_ ns' wt' e h; cases e; exact ⟨at_, h⟩
  | succ f ih =>
    intro ns wt at_ ns' wt' e h
    unfold loopM at e
    by_cases hat : at_ < ws.length
    · rw [if_pos hat] at e
      cases hr : readNd ws at_ wt.getLast? (lvlOf ns wt.getLast?) with
      | none => rw [hr] at e; cases e
      | some nd =>
        rw [hr] at e
        dsimp only at e
        by_cases hb : ns ≠ [] ∧ wt.getLast? = none
        · rw [if_pos hb] at e; cases e
        · rw [if_neg hb] at e
          refine ih e (rise_hang h (readNd_facts hr).2.2.2.2.1 ?_)
          split <;> omega
    · rw [if_neg hat] at e
      cases e
      exact ⟨at_, h⟩
theorem readExpr_at {ws : List Wd} {st : Nat} {ns : List Nd} (h : readExpr ws st = some ns) : ∀ i j, i < ns.length → j < ns.length → (nth ns i).at_ = (nth ns j).at_ → i = j := by
  unfold readExpr at h
  cases hl : loopM ws (ws.length + 1) [] [] st with
  | none => rw [hl] at h; cases h
  | some q =>
    obtain ⟨ns', wt⟩ := q
    rw [hl] at h
    dsimp only at h
    by_cases z : wt ≠ [] ∨ ns' = []
    · rw [if_pos z] at h; cases h
    · rw [if_neg z] at h
      cases h
      obtain ⟨b, hr⟩ := loopM_rise hl ⟨fun j hj => by simp at hj, fun i j _ hj => by simp at hj⟩
      intro i j hi hj e
      rw [bindTo_len] at hi hj
      rw [(bindTo_same hi).2.2.1, (bindTo_same hj).2.2.1] at e
      rcases Nat.lt_trichotomy i j with g | g | g
      · have := hr.2 i j g hj; omega
      · exact g
      · have := hr.2 j i g hi; omega
end K5
set_option Elab.async false
set_option linter.all false
set_option maxRecDepth 100000
set_option maxHeartbeats 4000000
namespace K5
open PySem PySem.Spec PyProof.Rows L2 Evl Xl SX Mi
theorem take_lnth {ls : List Ln} {i : Nat} (h : i < ls.length) : ls.take (i + 1) = ls.take i ++ [lnth ls i] := by
  rw [List.take_add_one]
  unfold lnth
  rw [List.getD_eq_getElem?_getD, List.getElem?_eq_getElem h]
  rfl
theorem name_apart {ls : List Ln} (hn : (ls.map (·.name)).Nodup) {i j : Nat} (hi : i < ls.length) (hj : j < ls.length) (e : (lnth ls i).name = (lnth ls j).name) : i = j := by
  have P := List.pairwise_iff_getElem.mp hn
  have nm : ∀ m (hm : m < (ls.map (·.name)).length), (ls.map (·.name))[m] = (lnth ls m).name := fun m hm => by
    have hm' : m < ls.length := by simpa using hm
    unfold lnth
    simp [List.getD_eq_getElem?_getD, hm']
  have hi' : i < (ls.map (·.name)).length := by simpa using hi
  have hj' : j < (ls.map (·.name)).length := by simpa using hj
  rcases Nat.lt_trichotomy i j with g | g | g
  · exact absurd (by rw [nm i hi', nm j hj', e]) (P i j hi' hj' g)
  · exact g
  · exact absurd (by rw [nm i hi', nm j hj', e]) (P j i hj' hi' g)
def lineKvs (ls : List Ln) : List (Key × V) := ls.map fun l => (.inr (S l.name), .str (S l.told))
/-- the dict of the lines, exactly -/
theorem evP_linesX {K : PySem.W.Frag} {mg : Str → Option Value} {CL C : Addr} {lrs : List LRec} {ls : List Ln} {H : Hp} {σ : L2.St} {ll : Addr} {tl : TE} {j : Nat} {vs : List Nat} (T : LineC K mg CL) (h : Lns CL C lrs ls H) (hnd : (ls.map (·.name)).Nodup) (hl : H ll = some (.lst (lrefs lrs))) (ht : Ev tl σ H (.ref ll)) (hn : ls.length ≤ 1000)
    (hw : ∀ y, wipe ((wipe σ vs).set j (some y)) vs = wipe σ vs) (hj : ∀ y, ((wipe σ vs).set j (some y))[j]? = some (some y)) : EvP (tDc (iList K tl) (gName j) tYes (tFld K (tVar j) "name") (tFld K (tVar j) "told") vs) σ H fun v H1 => ∃ D, v = .ref D ∧ H D = none ∧ H1 D = some (.dK (lineKvs ls)) := by
  have lx : (lrefs lrs).length = ls.length := by unfold lrefs; rw [List.length_map, h.len]
  refine fun Q q => ht H (Ex.refl H) _ fun H1 e1 => ⟨ll, rfl, ⟨_, sq_of (e1 _ _ hl)⟩, fun D hD => ?_⟩
  refine comp_walk (body := fun x H' Nx => gName j x (wipe σ vs) H' fun σ2 H2 => wipe σ2 vs = wipe σ vs ∧ tYes σ2 H2 fun b H3 => if b = true then tFld K (tVar j) "name" σ2 H3 fun y H4 => tFld K (tVar j) "told" σ2 H4 fun z H5 => ∃ kvs k, y = kV k ∧ H5 D = some (.dK kvs) ∧ kvs.length < sizeLine ∧ Nx (upd H5 D (.dK (putK kvs k z))) else Nx H3)
    (walk_list (K := K) (a := ll) (xs := lrefs lrs)) (fun i G => Ex H1 G ∧ G D = some (.dK (lineKvs (ls.take i)))) ⟨ex_put hD (Ex.refl H1), upd_same⟩ (fun i G _ hp => sq_of (hp.1 _ _ (e1 _ _ hl))) (fun i G x G' hi hp hy => ?_) (fun G hp => ?_)
  · obtain ⟨rfl, hx⟩ := hy
    obtain ⟨eG, hk⟩ := hp
    obtain ⟨hi2, rfl⟩ := lrefs_at h hx
    have la := (h.at_ i hi2).ex (e1.trans eG)
    refine ⟨hw _, ?_⟩
    refine ⟨_, hj _, _, CL, _, _, _, rfl, la.ins, T.cl, T.n1, rfl, ?_⟩
    refine ⟨_, hj _, _, CL, _, _, _, rfl, la.ins, T.cl, T.n2, rfl, lineKvs (ls.take i), .inr (S (lnth ls i).name), rfl, hk, ?_, ?_⟩
    · unfold lineKvs
      rw [List.length_map, List.length_take, sizeLine_eq]
      omega
    · refine ⟨ex_put hD eG, ?_⟩
      rw [upd_same, take_lnth hi2, putK_new]
      · unfold lineKvs
        rw [List.map_append]
        rfl
      · intro kv hkv e
        unfold lineKvs at hkv
        obtain ⟨l, hl2, rfl⟩ := List.mem_map.mp hkv
        obtain ⟨m, hm, hml⟩ := List.mem_take_iff_getElem.mp hl2
        have hm' : m < ls.length := by omega
        have el : lnth ls m = l := by
          unfold lnth
          rw [List.getD_eq_getElem?_getD, List.getElem?_eq_getElem hm']
          exact hml
        have := name_apart hnd hm' hi2 (by rw [el]; exact S_inj (Sum.inr.inj e))
        omega
  · obtain ⟨eG, hk⟩ := hp
    rw [lx, List.take_length] at hk
    exact q _ _ (e1.trans eG) ⟨D, rfl, fresh_back e1 hD, hk⟩
end K5
set_option Elab.async false
set_option linter.all false
set_option maxRecDepth 100000
set_option maxHeartbeats 4000000
namespace K5
open PySem PySem.Spec PyProof.Rows L2 Evl Xl SX Mi
def AtsApart (l : Ln) : Prop := ∀ a b, a < l.nodes.length → b < l.nodes.length → (nth l.nodes a).at_ = (nth l.nodes b).at_ → a = b
theorem readLine_at {told : Wd} {l : Ln} (h : readLine told = some l) : AtsApart l := by
  unfold readLine at h
  simp only at h
  split at h
  · cases h
  · split at h
    · obtain ⟨ns, hn, rfl⟩ := Option.map_eq_some_iff.mp h
      exact readExpr_at hn
    · split at h
      · obtain ⟨ns, hn, rfl⟩ := Option.map_eq_some_iff.mp h
        exact readExpr_at hn
      · cases h
theorem linesM_at : ∀ {ts : List Wd} {ls0 ls : List Ln}, linesM ts ls0 = .ok ls → (∀ l ∈ ls0, AtsApart l) → ∀ l ∈ ls, AtsApart l := by
  intro ts
  induction ts with
  | nil => intro ls0 ls h hn; cases h; exact hn
  | cons t r ih =>
    intro ls0 ls h hn
    unfold linesM at h
    cases hr : readLine t with
    | none => rw [hr] at h; cases h
    | some l =>
      rw [hr] at h
      dsimp only at h
      by_cases hc : canStand l ls0 = true
      · rw [if_pos hc] at h
        refine ih h fun m hm => ?_
        rcases List.mem_append.mp hm with z | z
        · exact hn m z
        · rw [List.mem_singleton.mp z]; exact readLine_at hr
      · rw [if_neg hc] at h; cases h
theorem readProg_facts {text : Wd} {ls : List Ln} (h : readProg text = .ok ls) : (ls.map (·.name)).Nodup ∧ ∀ l ∈ ls, AtsApart l := by
  unfold readProg at h
  cases hl : linesM (TL.spl [10] 0 [] text) [] with
  | error e => rw [hl] at h; cases h
  | ok ls' =>
    rw [hl] at h
    dsimp only at h
    split at h
    · cases h
    · split at h
      · cases h
      · cases h
        exact ⟨linesM_nodup hl (by simp), linesM_at hl fun l hm => by cases hm⟩
def nodeKv (lrs : List LRec) (ls : List Ln) (i j : Nat) : List Key × V := ([.inr (S (lnth ls i).name), .inl ((nth (lnth ls i).nodes j).at_ : Int)], .ref (R (LR lrs i).rs j).a)
def lineNs (lrs : List LRec) (ls : List Ln) (i n : Nat) : List (List Key × V) := (List.range n).map (nodeKv lrs ls i)
def nodeKvs (lrs : List LRec) (ls : List Ln) (n : Nat) : List (List Key × V) := (List.range n).flatMap fun i => lineNs lrs ls i (lnth ls i).nodes.length
theorem nodeKvs_len {lrs : List LRec} {ls : List Ln} (hb : ∀ i, i < ls.length → (lnth ls i).nodes.length ≤ 300) : ∀ {n : Nat}, n ≤ ls.length → (nodeKvs lrs ls n).length ≤ n * 300 := by
  intro n
  induction n with
  | zero => intro _; simp [nodeKvs]
  | succ n ih =>
    intro h
    have := ih (by omega)
    have hb' := hb n (by omega)
    unfold nodeKvs at this ⊢
    rw [List.range_succ, List.flatMap_append, List.length_append]
    simp only [List.flatMap_cons, List.flatMap_nil, List.append_nil]
    have hl : (lineNs lrs ls n (lnth ls n).nodes.length).length = (lnth ls n).nodes.length := by simp [lineNs]
    omega
theorem key_new {lrs : List LRec} {ls : List Ln} (hn : (ls.map (·.name)).Nodup) (ha : ∀ l ∈ ls, AtsApart l) {i j : Nat} (hi : i < ls.length) (hj : j < (lnth ls i).nodes.length) : ∀ kv ∈ nodeKvs lrs ls i ++ lineNs lrs ls i j, kv.1 ≠ (nodeKv lrs ls i j).1 := by
  intro kv hkv e
  rcases List.mem_append.mp hkv with z | z
  · obtain ⟨m, hm, hk⟩ := List.mem_flatMap.mp z
    obtain ⟨a, _, rfl⟩ := List.mem_map.mp hk
    rw [List.mem_range] at hm
    have e1 : (Sum.inr (S (lnth ls m).name) : Key) = .inr (S (lnth ls i).name) := (List.cons.inj e).1
    have := name_apart hn (by omega) hi (S_inj (Sum.inr.inj e1))
    omega
  · obtain ⟨a, haj, rfl⟩ := List.mem_map.mp z
    rw [List.mem_range] at haj
    have e2 : (Sum.inl ((nth (lnth ls i).nodes a).at_ : Int) : Key) = .inl ((nth (lnth ls i).nodes j).at_ : Int) := (List.cons.inj (List.cons.inj e).2).1
    have e3 : (nth (lnth ls i).nodes a).at_ = (nth (lnth ls i).nodes j).at_ := Int.ofNat.inj (Sum.inl.inj e2)
    have hm : lnth ls i ∈ ls := by
      unfold lnth
      rw [List.getD_eq_getElem?_getD, List.getElem?_eq_getElem hi]
      exact List.getElem_mem hi
    have := ha _ hm a j (by omega) hj e3
    omega
/-- the dict of the nodes, exactly -/
theorem evP_nodesX {K : PySem.W.Frag} {mg : Str → Option Value} {CL C : Addr} {lrs : List LRec} {ls : List Ln} {H : Hp} {ll : Addr} {a0 a1 a3 a4 a5 : Option V} (T : LineC K mg CL) (N : NodeC K mg C) (h : Lns CL C lrs ls H) (hn0 : (ls.map (·.name)).Nodup) (ha0 : ∀ l ∈ ls, AtsApart l) (hl : H ll = some (.lst (lrefs lrs))) (hn : ls.length ≤ 1000) :
    EvP (Xd.tDc2 (iList K (tVar 2)) (gName 3) (iList K (tFld K (tVar 3) "nodes")) (gName 4) (tFld K (tVar 4) "place") (tVar 4) [3, 4] [4]) ([a0, a1, some (.ref ll), a3, a4, a5] : L2.St) H fun v H1 => ∃ D, v = .ref D ∧ H D = none ∧ H1 D = some (.dT (nodeKvs lrs ls ls.length)) := by
  have lx : (lrefs lrs).length = ls.length := by unfold lrefs; rw [List.length_map, h.len]
  have hb : ∀ i, i < ls.length → (lnth ls i).nodes.length ≤ 300 := fun i hi => (h.at_ i hi).bd
  refine fun Q q => ⟨_, rfl, ll, rfl, ⟨_, sq_of hl⟩, fun D hD => ?_⟩
  refine comp_walk (body := fun x H' Nx => gName 3 x (wipe ([a0, a1, some (.ref ll), a3, a4, a5] : L2.St) [3, 4]) H' fun σ2 H2 => wipe σ2 [3, 4] = wipe ([a0, a1, some (.ref ll), a3, a4, a5] : L2.St) [3, 4] ∧
    iList K (tFld K (tVar 3) "nodes") σ2 H2 fun J1 H3 => ∃ W1 : Nat → Nat → Hp → Prop, (∃ m, W1 0 m H3) ∧ ∀ j k H, W1 j k H → (J1.stop j H ∧ Nx H) ∨ (J1.go j H ∧ ∃ Nx1 : Hp → Prop, (∀ H', Nx1 H' → ∃ k', k' < k ∧ W1 (j + 1) k' H') ∧
      ∀ y H', J1.yld j H y H' → gName 4 y (wipe σ2 [4]) H' fun σ3 H4 => wipe σ3 [4] = wipe σ2 [4] ∧ tFld K (tVar 4) "place" σ3 H4 fun ky H5 => tVar 4 σ3 H5 fun z H6 => ∃ (b : Addr) (key : List Key) (kvs : List (List Key × V)), ky = .ref b ∧ H6 b = some (.tup (key.map kV)) ∧
        H6 D = some (.dT kvs) ∧ kvs.length < sizeLine ∧ Nx1 (upd H6 D (.dT (putK kvs key z)))))
    (walk_list (K := K) (a := ll) (xs := lrefs lrs)) (fun i G => Ex H G ∧ G D = some (.dT (nodeKvs lrs ls i))) ⟨ex_put hD (Ex.refl H), upd_same⟩ (fun i G _ hp => sq_of (hp.1 _ _ hl)) (fun i G x G' hi hp hy => ?_)
    (fun G hp => by obtain ⟨e, h1⟩ := hp; rw [lx] at h1; exact q _ _ e ⟨D, rfl, hD, h1⟩)
  obtain ⟨rfl, hx⟩ := hy
  obtain ⟨eG, hk⟩ := hp
  obtain ⟨hi2, rfl⟩ := lrefs_at h hx
  have la := (h.at_ i hi2).ex eG
  refine ⟨rfl, _, rfl, _, CL, _, _, _, rfl, la.ins, T.cl, T.n3, rfl, _, rfl, ⟨_, sq_of la.nl⟩, ?_⟩
  have lxn : (refs (LR lrs i).rs (List.range (lnth ls i).nodes.length)).length = (lnth ls i).nodes.length := by unfold refs; rw [List.length_map, List.length_range]
  refine comp_walk (body := fun y H' Nx1 => gName 4 y (wipe (([a0, a1, some (.ref ll), some (.ref (LR lrs i).a), none, a5] : L2.St)) [4]) H' fun σ3 H4 => wipe σ3 [4] = wipe (([a0, a1, some (.ref ll), some (.ref (LR lrs i).a), none, a5] : L2.St)) [4] ∧ tFld K (tVar 4) "place" σ3 H4 fun ky H5 => tVar 4 σ3 H5 fun z H6 => ∃ (b : Addr) (key : List Key) (kvs : List (List Key × V)), ky = .ref b ∧ H6 b = some (.tup (key.map kV)) ∧
        H6 D = some (.dT kvs) ∧ kvs.length < sizeLine ∧ Nx1 (upd H6 D (.dT (putK kvs key z))))
    (walk_list (K := K) (a := (LR lrs i).nl) (xs := refs (LR lrs i).rs (List.range (lnth ls i).nodes.length))) (fun j G2 => Ex H G2 ∧ G2 D = some (.dT (nodeKvs lrs ls i ++ lineNs lrs ls i j))) ⟨eG, by rw [hk]; simp [lineNs]⟩ (fun j G2 _ hp => sq_of ((h.at_ i hi2).ex hp.1).nl) (fun j G2 y G2' hj hp hy => ?_)
    (fun G2 hp => by
      obtain ⟨e, h1⟩ := hp
      rw [lxn] at h1
      refine ⟨e, ?_⟩
      rw [h1]
      unfold nodeKvs
      rw [List.range_succ, List.flatMap_append]
      simp)
  obtain ⟨rfl, hy⟩ := hy
  obtain ⟨eG2, hk2⟩ := hp
  obtain ⟨hj2, rfl⟩ := refs_at hy
  have ln := ((h.at_ i hi2).ex eG2).nds.at_ j hj2
  have lb := la.bd
  have l1 := nodeKvs_len (lrs := lrs) hb (n := i) (by omega)
  refine ⟨rfl, _, rfl, _, C, _, _, _, rfl, ln.ins, N.cl, N.n1, rfl, _, rfl, _, (nodeKv lrs ls i j).1, _, rfl, ln.tup, hk2, ?_, ex_put hD eG2, ?_⟩
  · rw [List.length_append, sizeLine_eq]
    unfold lineNs
    rw [List.length_map, List.length_range]
    omega
  · rw [upd_same, putK_new (key_new hn0 ha0 hi2 hj2)]
    unfold lineNs
    rw [List.range_succ, List.map_append, List.append_assoc]
    rfl
end K5
set_option Elab.async false
set_option linter.all false
set_option maxRecDepth 100000
set_option maxHeartbeats 4000000
namespace K5
open PySem PySem.Spec PyProof.Rows L2 Evl Xl SX Mi
/-- the keys' tuples at these addresses -/
def TupsK (H : Hp) : List Addr → List (List Key) → Prop
  | [], [] => True
  | t :: ts, k :: ks => H t = some (.tup (k.map kV)) ∧ TupsK H ts ks
  | _, _ => False
theorem TupsK.of {H H' : Hp} (hk : ∀ c xs, H c = some (.tup xs) → H' c = some (.tup xs)) : ∀ {ts : List Addr} {ks : List (List Key)}, TupsK H ts ks → TupsK H' ts ks := by
  intro ts
  induction ts with
  | nil => intro ks h; cases ks <;> exact h
  | cons t ts ih =>
    intro ks h
    cases ks with
    | nil => exact h
    | cons k ks => exact ⟨hk _ _ h.1, ih h.2⟩
theorem TupsK.app {H : Hp} : ∀ {ts us : List Addr} {ks ls : List (List Key)}, TupsK H ts ks → TupsK H us ls → TupsK H (ts ++ us) (ks ++ ls) := by
  intro ts
  induction ts with
  | nil =>
    intro us ks ls h1 h2
    cases ks with
    | nil => exact h2
    | cons k ks => exact h1.elim
  | cons t ts ih =>
    intro us ks ls h1 h2
    cases ks with
    | nil => exact h1.elim
    | cons k ks => exact ⟨h1.1, ih h1.2 h2⟩
theorem TupsK.len {H : Hp} : ∀ {ts : List Addr} {ks : List (List Key)}, TupsK H ts ks → ts.length = ks.length := by
  intro ts
  induction ts with
  | nil => intro ks h; cases ks with | nil => rfl | cons k ks => exact h.elim
  | cons t ts ih => intro ks h; cases ks with | nil => exact h.elim | cons k ks => simp [ih h.2]
theorem valV_one {κ : Type} [DecidableEq κ] : ∀ {kvs : List (κ × V)} {i : Nat} {k : κ} {v : V}, (kvs.map (·.1)).Nodup → kvs[i]? = some (k, v) → valV kvs k = some v := by
  intro kvs
  induction kvs with
  | nil => intro i k v _ h; simp at h
  | cons a r ih =>
    intro i k v hn h
    rw [List.map_cons, List.nodup_cons] at hn
    unfold valV
    rw [List.find?_cons]
    cases i with
    | zero =>
      simp at h
      subst h
      simp
    | succ i =>
      simp at h
      have hne : ¬ a.1 = k := fun e => hn.1 (by
        rw [e]
        exact List.mem_map.mpr ⟨(k, v), List.mem_of_getElem? h, rfl⟩)
      rw [decide_eq_false hne]
      exact ih hn.2 h
def nodeTab (lrs : List LRec) (ls : List Ln) (n : Nat) : List ((List Key × V) × Nd) := (List.range n).flatMap fun i => (List.range (lnth ls i).nodes.length).map fun j => (nodeKv lrs ls i j, nth (lnth ls i).nodes j)
theorem tab_kvs {lrs : List LRec} {ls : List Ln} {n : Nat} : nodeKvs lrs ls n = (nodeTab lrs ls n).map (·.1) := by
  unfold nodeKvs nodeTab lineNs
  rw [List.map_flatMap]
  congr 1
  funext i
  rw [List.map_map]
  rfl
theorem keys_nodup {lrs : List LRec} {ls : List Ln} (hn : (ls.map (·.name)).Nodup) (ha : ∀ l ∈ ls, AtsApart l) : ∀ {n : Nat}, n ≤ ls.length → ((nodeKvs lrs ls n).map (·.1)).Nodup := by
  intro n
  induction n with
  | zero => intro _; simp [nodeKvs]
  | succ n ih =>
    intro h
    have base := ih (by omega)
    have step : ∀ j, j ≤ (lnth ls n).nodes.length → ((nodeKvs lrs ls n ++ lineNs lrs ls n j).map (·.1)).Nodup := by
      intro j
      induction j with
      | zero => intro _; simpa [lineNs] using base
      | succ j ihj =>
        intro hj
        have := ihj (by omega)
        have e : lineNs lrs ls n (j + 1) = lineNs lrs ls n j ++ [nodeKv lrs ls n j] := by
          unfold lineNs
          rw [List.range_succ, List.map_append]
          rfl
        rw [e, ← List.append_assoc, List.map_append, List.nodup_append]
        refine ⟨this, by simp, fun a ha' b hb => ?_⟩
        obtain ⟨kv, hkv, rfl⟩ := List.mem_map.mp ha'
        have hb2 : b = (nodeKv lrs ls n j).1 := by simpa using hb
        rw [hb2]
        exact key_new hn ha (by omega) (by omega) kv hkv
    have := step _ (Nat.le_refl _)
    have e : nodeKvs lrs ls (n + 1) = nodeKvs lrs ls n ++ lineNs lrs ls n (lnth ls n).nodes.length := by
      unfold nodeKvs
      rw [List.range_succ, List.flatMap_append]
      simp
    rw [e]
    exact this
theorem tab_at {CL C : Addr} {lrs : List LRec} {ls : List Ln} {H : Hp} (h : Lns CL C lrs ls H) {i : Nat} {e : (List Key × V) × Nd} (he : (nodeTab lrs ls ls.length)[i]? = some e) : ∃ a b, a < ls.length ∧ b < (lnth ls a).nodes.length ∧ e = (nodeKv lrs ls a b, nth (lnth ls a).nodes b) := by
  have hm := List.mem_of_getElem? he
  unfold nodeTab at hm
  obtain ⟨a, ha, hk⟩ := List.mem_flatMap.mp hm
  obtain ⟨b, hb, rfl⟩ := List.mem_map.mp hk
  exact ⟨a, b, List.mem_range.mp ha, List.mem_range.mp hb, rfl⟩
def bindKeys (lrs : List LRec) (ls : List Ln) (ws : List Wd) (n : Nat) : List (List Key) := (((nodeTab lrs ls ls.length).take n).filter fun e => decide (e.2.kind ∈ ws)).map (·.1.1)
/-- the binding places, exactly -/
theorem evP_bindsX {K : PySem.W.Frag} {mg : Str → Option Value} {CP dx CL C p D pw : Addr} {lrs : List LRec} {ls : List Ln} {H : Hp} {fs : List (Str × V)} {ws : List Wd} {a1 a2 a3 a4 a5 : Option V} (G : ProgC K mg CP) (N : NodeC K mg C) (h : Lns CL C lrs ls H) (hn0 : (ls.map (·.name)).Nodup) (ha0 : ∀ l ∈ ls, AtsApart l) (hp : H p = some (.ins CP dx fs)) (hf : fs.lookup ("nodes" : Str) = some (.ref D)) (hD : H D = some (.dT (nodeKvs lrs ls ls.length)))
    (hn : ls.length ≤ 1000) (hw : ∀ H, SqT K H pw (ws.map fun x => .str (S x))) :
    EvP (tLockE (tLc (iKeys (tFld K (tVar 0) "nodes")) (gName 5) (tTest (tOp (rIn K false) (tFld K (tDGet (tFld K (tVar 0) "nodes") (tVar 5)) "kind") (tC (.ref pw)))) (tVar 5) [5])) ([some (.ref p), a1, a2, a3, a4, a5] : L2.St) H fun v H1 => ∃ q bs, v = .ref q ∧ H q = none ∧ TupsK H1 bs (bindKeys lrs ls ws (nodeTab lrs ls ls.length).length) ∧ H1 q = some (.lst (bs.map V.ref)) := by
  have hlen : (nodeKvs lrs ls ls.length).length ≤ ls.length * 300 := nodeKvs_len (fun i hi => (h.at_ i hi).bd) (Nat.le_refl _)
  have tl : (nodeTab lrs ls ls.length).length = (nodeKvs lrs ls ls.length).length := by rw [tab_kvs, List.length_map]
  generalize hkv0 : nodeKvs lrs ls ls.length = kvs at *
  refine fun Q q => ⟨D, .dT kvs, hD, trivial, fun od => ?_⟩
  have hpD : p ≠ D := fun z => by rw [z, hD] at hp; cases hp
  have hp1 : (upd H D (.frz od (.dT kvs))) p = some (.ins CP dx fs) := (upd_ne hpD).trans hp
  have hD1 : (upd H D (.frz od (.dT kvs))) D = some (.frz od (.dT kvs)) := upd_same
  refine ⟨_, rfl, p, CP, dx, fs, _, rfl, hp1, G.cl, G.n4, hf, D, od, rfl, .inr ⟨kvs, hD1, fun DL hDL => ?_⟩⟩
  have hne : DL ≠ D := fun z => by rw [z, hD1] at hDL; cases hDL
  refine comp_walk (body := fun x H' Nx => gName 5 x (wipe ([some (.ref p), a1, a2, a3, a4, a5] : L2.St) [5]) H' fun σ2 H2 => wipe σ2 [5] = wipe ([some (.ref p), a1, a2, a3, a4, a5] : L2.St) [5] ∧ (tTest (tOp (rIn K false) (tFld K (tDGet (tFld K (tVar 0) "nodes") (tVar 5)) "kind") (tC (.ref pw)))) σ2 H2 fun b H3 => if b = true then tVar 5 σ2 H3 fun y H4 => ∃ acc, H4 DL = some (.lst acc) ∧ acc.length < sizeLine ∧ Nx (upd H4 DL (.lst (acc ++ [y]))) else Nx H3)
    (walk_keysT (d := D) (o := od) (kvs := kvs)) (fun i G' => Ex (upd H D (.frz od (.dT kvs))) G' ∧ ∃ bs, TupsK G' bs (bindKeys lrs ls ws i) ∧ G' DL = some (.lst (bs.map V.ref)) ∧ bs.length ≤ i) ⟨ex_put hDL (Ex.refl _), [], by simp [bindKeys, TupsK], upd_same, Nat.le_refl _⟩ (fun i G' _ hp => hp.1 _ _ hD1) (fun i G' x G2 hi hpv hy => ?_) (fun G' hpv => ?_)
  · obtain ⟨rfl, k, v, t, hkv, rfl, ht⟩ := hy
    obtain ⟨eG, bs, hb1, hb2, hbl⟩ := hpv
    have hte : ∃ e, (nodeTab lrs ls ls.length)[i]? = some e ∧ e.1 = (k, v) := by
      rw [← hkv0, tab_kvs, List.getElem?_map] at hkv
      cases z : (nodeTab lrs ls ls.length)[i]? with
      | none => rw [z] at hkv; cases hkv
      | some e => rw [z] at hkv; exact ⟨e, rfl, Option.some.inj hkv⟩
    obtain ⟨e, he, hekv⟩ := hte
    obtain ⟨i2, j2, hi2, hj2, rfl⟩ := tab_at h he
    have hvv : valV kvs k = some v := by
      have := keys_nodup (lrs := lrs) hn0 ha0 (Nat.le_refl ls.length)
      rw [hkv0] at this
      exact valV_one this hkv
    have hv2 : v = .ref (R (LR lrs i2).rs j2).a := (congrArg Prod.snd hekv).symm
    have hk2 : k = (nodeKv lrs ls i2 j2).1 := (congrArg Prod.fst hekv).symm
    subst hv2
    have ln := (h.at_ i2 hi2).nds.at_ j2 hj2
    have lnD : (R (LR lrs i2).rs j2).a ≠ D := fun z => by have := ln.ins; rw [z, hD] at this; cases this
    have lni := eG _ _ ((upd_ne lnD).trans ln.ins)
    refine ⟨rfl, ?_⟩
    have tt : EvT (tTest (tOp (rIn K false) (tFld K (tDGet (tFld K (tVar 0) "nodes") (tVar 5)) "kind") (tC (.ref pw)))) ([some (.ref p), a1, a2, a3, a4, some (.ref t)] : L2.St) G2 (decide ((nth (lnth ls i2).nodes j2).kind ∈ ws)) :=
      et_is (et_test (ev_op (ev_fld (ev_dget (a := D) (y := .ref t) (ev_fld (ev_var rfl) (eG _ _ hp1) G.cl G.n4 hf) (ev_var rfl) fun H1 e1 => .inr ⟨kvs, k, t, .inr ⟨od, e1 _ _ (eG _ _ hD1)⟩, rfl, e1 _ _ ht, hvv.symm⟩) lni N.cl N.n3 rfl) ev_c (rv_inT (hw G2) rfl flat_map))) inV_map
    have bk : bindKeys lrs ls ws (i + 1) = bindKeys lrs ls ws i ++ if (nth (lnth ls i2).nodes j2).kind ∈ ws then [k] else [] := by
      unfold bindKeys
      rw [List.take_add_one, he, List.filter_append, List.map_append]
      congr 1
      by_cases z : (nth (lnth ls i2).nodes j2).kind ∈ ws
      · rw [if_pos z, hk2]; simp [z]
      · rw [if_neg z]; simp [z]
    refine tt G2 (Ex.refl G2) _ fun H3 e3 => ?_
    cases hb : decide ((nth (lnth ls i2).nodes j2).kind ∈ ws) with
    | true =>
      rw [if_pos (of_decide_eq_true hb)] at bk
      rw [if_pos rfl]
      refine ⟨_, rfl, bs.map V.ref, e3 _ _ hb2, by rw [List.length_map, sizeLine_eq]; omega, ex_put hDL (eG.trans e3), bs ++ [t], ?_, by rw [upd_same, List.map_append]; rfl, by rw [List.length_append]; simp; exact hbl⟩
      rw [bk]
      refine TupsK.of (H := H3) (fun c xs hc => ?_) ((hb1.of fun c xs hc => e3 _ _ hc).app ⟨e3 _ _ ht, trivial⟩)
      have : c ≠ DL := fun z => by rw [z, e3 _ _ hb2] at hc; cases hc
      rw [upd_ne this]
      exact hc
    | false =>
      rw [if_neg (of_decide_eq_false hb), List.append_nil] at bk
      rw [if_neg (by simp)]
      exact ⟨eG.trans e3, bs, by rw [bk]; exact hb1.of fun c xs hc => e3 _ _ hc, e3 _ _ hb2, by omega⟩
  · obtain ⟨eG, bs, hb1, hb2, hbl⟩ := hpv
    rw [← tl] at hb1
    refine ⟨eG _ _ hD1, q _ _ (fun c o hc => ?_) ⟨DL, bs, rfl, (upd_ne hne).symm.trans hDL, hb1.of fun c xs hc => ?_, (upd_ne hne).trans hb2⟩⟩
    · by_cases z : c = D
      · rw [z, upd_same]; rw [z, hD] at hc; exact hc
      · rw [upd_ne z]
        exact eG _ _ ((upd_ne z).trans hc)
    · have : c ≠ D := fun z => by rw [z, eG _ _ hD1] at hc; cases hc
      rw [upd_ne this]
      exact hc
end K5
set_option Elab.async false
set_option linter.all false
set_option maxRecDepth 100000
set_option maxHeartbeats 4000000
namespace K5
open PySem PySem.Spec PyProof.Rows L2 Evl Xl SX Mi
def keysOf (kvs : List (List Key × V)) : List (List Key) := kvs.map (·.1)
theorem s_fldPX {K : PySem.W.Frag} {ta te : TE} {σ : L2.St} {H : Hp} {f : Str} {a C dx : Addr} {fs : List (Str × V)} {Pd : V → Hp → Prop} {D : Ends} (ha : H a = some (.ins C dx fs)) (h0 : Ev ta σ H (.ref a)) (h : EvP te σ H Pd) (hc : Cls K C) (hn : NoAttr K C f) (hl : fs.length < 1000) (hP : ∀ v H1 H2, Ex H H1 → Ex H1 H2 → Pd v H1 → Pd v H2)
    (k : ∀ v H1, Ex H H1 → Pd v H1 → D.nx σ (upd H1 a (.ins C dx (putF f v fs)))) : sFld K ta te f D σ H :=
  h _ fun v H1 e1 hv => h0 H1 e1 _ fun H2 e2 => ⟨a, C, dx, fs, rfl, e2 _ _ (e1 _ _ ha), hc, hn, hl, k v H2 (e1.trans e2) (hP v H1 H2 e1 e2 hv)⟩
theorem evB {te : TE} {σ : L2.St} {H : Hp} {ks : List (List Key)} (h : EvP te σ H fun v H1 => ∃ q bs, v = .ref q ∧ H q = none ∧ TupsK H1 bs ks ∧ H1 q = some (.lst (bs.map V.ref))) : EvP te σ H fun v H1 => ∃ p xs, v = .ref p ∧ H1 p = some (.lst xs) ∧ ∃ bs : List Addr, xs = bs.map V.ref ∧ TupsK H1 bs ks :=
  fun Q q => h Q fun v H1 e ⟨r, bs, a, b, c, d⟩ => q v H1 e ⟨r, _, a, d, bs, rfl, c⟩
section
variable {P : Program} {w : World} {K : PySem.W.Frag} {mg : Str → Option Value} {base : Heap} {f : Addr} {fd : FuncData}
def prF (text : Wd) (dl tp dn tl tb : Addr) : List (Str × V) := [("_text", .str (S text)), ("_lines", .ref dl), ("_parts", .ref tp), ("nodes", .ref dn), ("_places", .ref tl), ("_bindings", .ref tb)]
def BWS : List Wd := [[99, 97, 108, 108], [108, 101, 116], [112, 97, 105, 114]]
/-- a Program of this text and these lines stands at p -/
def ProgAt (CP CL C : Addr) (H : Hp) (p dx : Addr) (text : Wd) (ls : List Ln) : Prop := ∃ (lrs : List LRec) (dl tp dn tl tb : Addr) (ps bs : List Addr), H p = some (.ins CP dx (prF text dl tp dn tl tb)) ∧ Lns CL C lrs ls H ∧ H dl = some (.dK (lineKvs ls)) ∧ H tp = some (.tup ((ls.dropLast.map (·.name)).map fun x => .str (S x))) ∧
  H dn = some (.dT (nodeKvs lrs ls ls.length)) ∧ H tl = some (.tup (ps.map V.ref)) ∧ TupsK H ps (keysOf (nodeKvs lrs ls ls.length)) ∧ H tb = some (.tup (bs.map V.ref)) ∧ TupsK H bs (bindKeys lrs ls BWS (nodeTab lrs ls ls.length).length)
theorem isKeys_tups {H : Hp} : ∀ {kvs : List (List Key × V)} {bs : List Addr}, IsKeys H kvs bs → TupsK H bs (keysOf kvs) := by
  intro kvs
  induction kvs with
  | nil => intro bs h; cases h; trivial
  | cons kv r ih => intro bs h; cases h with | cons a b => exact ⟨a, ih b⟩
theorem evP_tupX {σ : L2.St} {H : Hp} {te : TE} {Pd : List V → Hp → Prop} (h : EvP te σ H fun v H1 => ∃ p xs, v = .ref p ∧ H1 p = some (.lst xs) ∧ Pd xs H1) (hm : ∀ xs H1 H2, Ex H1 H2 → Pd xs H1 → Pd xs H2) : EvP (tThen te (kTup K)) σ H fun v H1 => ∃ t xs, v = .ref t ∧ H t = none ∧ H1 t = some (.tup xs) ∧ Pd xs H1 :=
  fun Q q => h _ fun v H1 e1 ⟨p, xs, hv, hp, hd⟩ => .inl ⟨p, xs, hv, sq_of hp, fun t ht => q _ _ (e1.trans (ex_put ht (Ex.refl H1))) ⟨t, xs, rfl, fresh_back e1 ht, upd_same, hm _ _ _ (ex_put ht (Ex.refl H1)) hd⟩⟩
theorem TupsK.ex {H H' : Hp} (e : Ex H H') {ts : List Addr} {ks : List (List Key)} (h : TupsK H ts ks) : TupsK H' ts ks := h.of fun c xs hc => e _ _ hc
def spPrX (K : PySem.W.Frag) (CB CP CL C : Addr) : Sp := fun vs H Q E => ∃ (p dx : Addr) (x : V), vs = [.ref p, x] ∧ H p = some (.ins CP dx []) ∧
  ((∃ T, TyB K H x T ∧ T ≠ "str" ∧ ∀ d H', Ex H H' → H d = none → H' d = some (.xd [("value", .int 0)]) → E (.ref CB) (some d) H') ∨
  ∃ text : Wd, x = .str (S text) ∧ text.length ≤ 900 ∧ (∀ e, readProg text = .error e → ∀ d H', Ex H H' → H d = none → H' d = some (.xd [("value", .int (e : Nat))]) → E (.ref CB) (some d) H') ∧
    ∀ ls, readProg text = .ok ls → ∀ H', Keep (fun c => c = p) H H' → ProgAt CP CL C H' p dx text ls → Q .non H')
abbrev nG2 : List Str := ["self", "text", "lines", "line", "node", "place"]
abbrev sProg2 : Stmt := inClass (top 36) 0
theorem scG2 : FnScope nG ["self", "text"] (C8.fnScope sProg) := C8.fnScope_by (by decide +kernel)
theorem ok_programX {CB CP CL C fR : Addr} {fdR : FuncData} (F : C8.Fun K "__init__" "Program.__init__" sProg f fd) (T : Txt2 K w mg) (G : ProgC K mg CP) (N : NodeC K mg C) (L : LineC K mg CL)
    (FR : FnOk P w K mg base (L2.CX P w) 6 fR fdR ["text"] (spRP K CB CL C)) (mR : mg "read_program" = some (.ref fR)) (kR : PySem.W.keepIn K (.ref fR) = true) (bR : Binds K fdR ["text"] []) : FnOk P w K mg base (L2.CX P w) 7 f fd ["self", "text"] (spPrX K CB CP CL C) := by
  obtain ⟨pw, mw, hw⟩ := T.bwords
  refine fnX F scG2 (fun vs H Q E h => by obtain ⟨p, dx, x, rfl, _⟩ := h; rfl) (fun cdv A outer s H vs Q E hr h => ?_)
  obtain ⟨p, dx, x, rfl, hp, h⟩ := h
  refine ⟨_, pss_cons (ps_set (i := 2) scG2.nd rfl (Or.inl rfl) (pe_callS FR hr (by rfl) mR kR bR (fun σ => passAt (takes_of rfl rfl rfl rfl) σ) (pa_cons (pv 1) pa_nil)))
    (pss_cons (ps_fld (pv 0) (pv 1) rfl)
    (pss_cons (ps_fld (pv 0) (pe_dc (own := [("line", 3)]) (g := gName 3) (tt := tYes) (tk := tFld K (tVar 3) "name") (tv := tFld K (tVar 3) "told") rfl scG2.nd (pi_list (pv 2)) (blkOk_by (N := nG) (sc := C8.fnScope sProg) (by decide +kernel))
        (fun _ _ _ _ _ => pg_name (i := 3) scG2.nd rfl (Or.inl rfl)) (fun _ _ _ _ _ => pts_nil) (fun _ _ _ _ _ => pe_fld (pv 3) (by rfl)) (fun _ _ _ _ _ => pe_fld (pv 3) (by rfl))) rfl)
    (pss_cons (ps_fld (pv 0) (pe_tupleOf (by rfl) T.tuple_ (pe_lc (own := [("line", 3)]) (g := gName 3) (tt := tYes) (te := tFld K (tVar 3) "name") rfl scG2.nd (pi_list (pe_slice sl_list (pv 2) po_none (po_some (pe_un un_neg pe_int)))) (blkOk_by (N := nG) (sc := C8.fnScope sProg) (by decide +kernel))
        (fun _ _ _ _ _ => pg_name (i := 3) scG2.nd rfl (Or.inl rfl)) (fun _ _ _ _ _ => pts_nil) (fun _ _ _ _ _ => pe_fld (pv 3) (by rfl)))) rfl)
    (pss_cons (ps_fld (pv 0) (Xd.pe_dc2 (own := [("line", 3), ("node", 4)]) (vs1 := [4]) (g := gName 3) (g1 := gName 4) (wi1 := iList K (tFld K (tVar 3) "nodes")) (tk := tFld K (tVar 4) "place") (tv := tVar 4) rfl (Nat.lt_of_le_of_lt (Nat.le_trans (Nat.le_add_right _ _) (Nat.le_add_right _ _)) hr.un) scG2.nd (pi_list (pv 2)) (blkOk_by (N := nG) (sc := C8.fnScope sProg) (by decide +kernel)) (by decide)
        (fun _ _ _ _ _ => pg_name (i := 3) scG2.nd rfl (Or.inl rfl)) (fun _ _ _ _ _ => pi_list (pe_fld (pv 3) (by rfl))) (fun _ _ _ _ _ => pg_name (i := 4) scG2.nd rfl (Or.inl rfl)) (fun _ _ _ _ _ => pe_fld (pv 4) (by rfl)) (fun _ _ _ _ _ => pv 4)) rfl)
    (pss_cons (ps_fld (pv 0) (pe_tupleOf (by rfl) T.tuple_ (pe_callTy (call_list_dT rfl) (by rfl) T.list_ (by decide +kernel) (pa_cons (pe_fld (pv 0) rfl) pa_nil))) rfl)
    (pss_one (ps_fld (pv 0) (pe_tupleOf (by rfl) T.tuple_ (pe_lock (pe_lc (own := [("place", 5)]) (g := gName 5) (tt := tTest (tOp (rIn K false) (tFld K (tDGet (tFld K (tVar 0) "nodes") (tVar 5)) "kind") (tC (.ref pw)))) (te := tVar 5) rfl scG2.nd (pi_keys (pe_fld (pv 0) rfl)) (blkOk_by (N := nG) (sc := C8.fnScope sProg) (by decide +kernel))
        (fun _ _ _ _ _ => pg_name (i := 5) scG2.nd rfl (Or.inl rfl)) (fun _ _ _ _ _ => pts_one (pt_cmpR op_in_seq (pe_fld (pe_dget (by have := hr.un; show (A.deeper (envOfC "Program.__init__" (C8.fnScope sProg) s.heap.objs.size f cdv)).units + 1 < cLine; omega) (pe_fld (pv 0) (by rfl)) (pv 5) (fun _ _ => rfl)) (by rfl)) (pe_glob (v := .ref pw) (by rfl) mw rfl) rfl)) (fun _ _ _ _ _ => pv 5)))) rfl))))))), ?_⟩
  refine q_callS (vs := [x]) (ea_cons (ev_var rfl) ea_nil) fun H0 e0 => ⟨x, rfl, ?_⟩
  rcases h with ⟨t, ht, hne, k⟩ | ⟨text, rfl, hlt, kE, kQ⟩
  · exact .inl ⟨t, TyB_ex ht e0, hne, fun d H' e hd hd' => k d H' (e0.trans e) (fresh_back e0 hd) hd'⟩
  · refine .inr ⟨text, rfl, hlt, fun e he d H' ee hd hd' => kE e he d H' (e0.trans ee) (fresh_back e0 hd) hd', fun ls hls lrs ll H1 e1 hL hll hll0 hne hln => ?_⟩
    have e01 := e0.trans e1
    have hp1 := e01 _ _ hp
    have k0 := kQ ls hls
    obtain ⟨hnd, hat⟩ := readProg_facts hls
    have nxt : ∀ {G G' : Hp} {fs : List (Str × V)}, Keep (fun c => c = p) H1 G → Ex G G' → Keep (fun c => c = p) H1 (upd G' p (.ins CP dx fs)) := fun kk ee => (kk.ex ee).put rfl
    have hpl : ll ≠ p := fun z => by rw [z, hp1] at hll; cases hll
    refine q_fld hp1 (ev_var rfl) (v := .str (S text)) (ev_var rfl) G.cl G.n1 (by show 0 < 1000; decide) fun H2 e2 => ?_
    have kk2 := nxt (fs := putF "_text" (.str (S text)) []) (Keep.refl (fun c => c = p) H1) e2
    refine q_fldP upd_same (ev_var rfl) (evP_linesX (j := 3) (ll := ll) L (hL.keep hp1 kk2) hnd (kk2 _ _ hpl hll) (ev_var rfl) hln (fun _ => rfl) (fun _ => rfl)) G.cl G.n2 (by show 1 < 1000; decide) (fun v A1 A2 _ ee ⟨D, a, b, c⟩ => ⟨D, a, b, ee _ _ c⟩) fun v3 H3 e3 hv3 => ?_
    obtain ⟨dl, rfl, hdl0, hdl⟩ := hv3
    have dlp : dl ≠ p := fun z => by rw [z, upd_same] at hdl0; cases hdl0
    have kk3 := nxt (fs := putF "_lines" (.ref dl) (putF "_text" (.str (S text)) [])) kk2 e3
    have hdl3 : (upd H3 p (.ins CP dx (putF "_lines" (.ref dl) (putF "_text" (.str (S text)) [])))) dl = some (.dK (lineKvs ls)) := (upd_ne dlp).trans hdl
    have cut : EvL (tSl (rSlL K) (tVar 2) tNoPart (tPart (tUn (rU fun i => V.int (-i)) (tC (V.int 1))))) ([some (.ref p), some (.str (S text)), some (.ref ll), none, none, none] : L2.St) (upd H3 p (.ins CP dx (putF "_lines" (.ref dl) (putF "_text" (.str (S text)) [])))) (lrefs lrs.dropLast) := by
      have hcut : cutV (lrefs lrs) none (some (-1)) = lrefs lrs.dropLast := by
        rw [cut_last (fun z => by
          have lx : (lrefs lrs).length = ls.length := by unfold lrefs; rw [List.length_map, hL.len]
          rw [z] at lx
          cases ls with
          | nil => exact hne rfl
          | cons a b => simp at lx)]
        unfold lrefs
        rw [List.map_dropLast]
      rw [← hcut]
      exact el_sl (ev_var rfl) eo_none (eo_some (ev_un ev_c ru_neg)) (sq_of (kk3 _ _ hpl hll))
    have evl : ∀ {te : TE} {σ : L2.St} {G : Hp} {xs : List V}, EvL te σ G xs → EvP te σ G fun v G1 => ∃ q ys, v = .ref q ∧ G1 q = some (.lst ys) ∧ ys = xs := fun h Q q => h _ (Ex.refl _) _ fun r G1 _ e hr => q _ _ e ⟨r, _, rfl, hr, rfl⟩
    refine q_fldP upd_same (ev_var rfl) (evP_tupX (Pd := fun xs _ => xs = (ls.dropLast.map (·.name)).map fun x => .str (S x)) (evl (el_lnamesN (j := 3) L (hL.keep hp1 kk3).drop cut (by simp; omega) (fun _ => rfl) (fun _ => rfl))) fun _ _ _ _ h => h) G.cl G.n3 (by show 2 < 1000; decide) (fun v A1 A2 _ ee ⟨t, xs, a, b, c, d⟩ => ⟨t, xs, a, b, ee _ _ c, d⟩) fun v4 H4 e4 hv4 => ?_
    obtain ⟨tp, xs4, rfl, htp0, htp, rfl⟩ := hv4
    have tpp : tp ≠ p := fun z => by rw [z, upd_same] at htp0; cases htp0
    have kk4 := nxt (fs := putF "_parts" (.ref tp) (putF "_lines" (.ref dl) (putF "_text" (.str (S text)) []))) kk3 e4
    refine q_fldP upd_same (ev_var rfl) (evP_nodesX (ll := ll) L N (hL.keep hp1 kk4) hnd hat (kk4 _ _ hpl hll) hln) G.cl G.n4 (by show 3 < 1000; decide) (fun v A1 A2 _ ee ⟨D, a, b, c⟩ => ⟨D, a, b, ee _ _ c⟩) fun v5 H5 e5 hv5 => ?_
    obtain ⟨D, rfl, hD0, hD5⟩ := hv5
    have hDp : D ≠ p := fun z => by rw [z, upd_same] at hD0; cases hD0
    have kk5 := nxt (fs := putF "nodes" (.ref D) (putF "_parts" (.ref tp) (putF "_lines" (.ref dl) (putF "_text" (.str (S text)) [])))) kk4 e5
    have hD5' : (upd H5 p (.ins CP dx (putF "nodes" (.ref D) (putF "_parts" (.ref tp) (putF "_lines" (.ref dl) (putF "_text" (.str (S text)) [])))))) D = some (.dT (nodeKvs lrs ls ls.length)) := (upd_ne hDp).trans hD5
    refine q_fldP upd_same (ev_var rfl) (evP_tupX (Pd := fun xs G1 => ∃ ps : List Addr, xs = ps.map V.ref ∧ TupsK G1 ps (keysOf (nodeKvs lrs ls ls.length))) ?_ fun _ _ _ e ⟨ps, a, b⟩ => ⟨ps, a, b.ex e⟩) G.cl G.n5 (by show 4 < 1000; decide) (fun v A1 A2 _ ee ⟨t, xs, a, b, c, ps, d, f⟩ => ⟨t, xs, a, b, ee _ _ c, ps, d, f.ex ee⟩) fun v6 H6 e6 hv6 => ?_
    · refine fun Q' q => ⟨_, rfl, p, CP, dx, _, _, rfl, upd_same, G.cl, G.n4, rfl, D, _, rfl, .inl hD5', fun t bs ht hk => q _ _ (ex_put ht (Ex.refl _)) ⟨t, _, rfl, upd_same, bs, rfl, (isKeys_tups hk).ex (ex_put ht (Ex.refl _))⟩⟩
    · obtain ⟨tl, _, rfl, htl0, htl, ps, rfl, hps⟩ := hv6
      have tlp : tl ≠ p := fun z => by rw [z, upd_same] at htl0; cases htl0
      have kk6 := nxt (fs := putF "_places" (.ref tl) (putF "nodes" (.ref D) (putF "_parts" (.ref tp) (putF "_lines" (.ref dl) (putF "_text" (.str (S text)) []))))) kk5 e6
      refine s_fldPX upd_same (ev_var rfl) (evP_tupX (Pd := fun xs G1 => ∃ bs : List Addr, xs = bs.map V.ref ∧ TupsK G1 bs (bindKeys lrs ls BWS (nodeTab lrs ls ls.length).length)) (evB (evP_bindsX (ws := BWS) G N (hL.keep hp1 kk6) hnd hat upd_same rfl ((upd_ne hDp).trans (e6 _ _ hD5')) hln hw)) fun _ _ _ e ⟨ps, a, b⟩ => ⟨ps, a, b.ex e⟩) G.cl G.n6 (by show 5 < 1000; decide) (fun v A1 A2 _ ee ⟨t, xs, a, b, c, ps, d, f⟩ => ⟨t, xs, a, b, ee _ _ c, ps, d, f.ex ee⟩) fun v7 H7 e7 hv7 => ?_
      obtain ⟨tb, _, rfl, htb0, htb, bs, rfl, hbs⟩ := hv7
      have tbp : tb ≠ p := fun z => by rw [z, upd_same] at htb0; cases htb0
      have kk7 := nxt (fs := prF text dl tp D tl tb) kk6 e7
      have kp : ∀ {A B : Hp} {o : HO} {c : Addr} {u : HO}, Ex A B → A c = some u → c ≠ p → (upd B p o) c = some u := fun e hc n => (upd_ne n).trans (e _ _ hc)
      have tk : ∀ {A B : Hp} {fs fs' : List (Str × V)} {ts : List Addr} {ks : List (List Key)}, A p = some (.ins CP dx fs) → TupsK A ts ks → TupsK (upd A p (.ins CP dx fs')) ts ks := fun hA h => h.of fun c xs hc => by
        rw [upd_ne fun z => by rw [z, hA] at hc; cases hc]; exact hc
      have p6 : H6 p = some (.ins CP dx (putF "nodes" (.ref D) (putF "_parts" (.ref tp) (putF "_lines" (.ref dl) (putF "_text" (.str (S text)) []))))) := e6 _ _ upd_same
      have p7 : H7 p = some (.ins CP dx (putF "_places" (.ref tl) (putF "nodes" (.ref D) (putF "_parts" (.ref tp) (putF "_lines" (.ref dl) (putF "_text" (.str (S text)) [])))))) := e7 _ _ upd_same
      refine k0 _ (fun c o hc hh => kk7 c o hc (e01 _ _ hh)) ⟨lrs, dl, tp, D, tl, tb, ps, bs, upd_same, hL.keep hp1 kk7, ?_, ?_, ?_, ?_, ?_, ?_, ?_⟩
      · exact kp e7 (kp e6 (kp e5 (kp e4 hdl3 dlp) dlp) dlp) dlp
      · exact kp e7 (kp e6 (kp e5 ((upd_ne tpp).trans htp) tpp) tpp) tpp
      · exact kp e7 (kp e6 hD5' hDp) hDp
      · exact kp e7 ((upd_ne tlp).trans htl) tlp
      · exact tk (B := H7) p7 ((tk (B := H6) p6 hps).ex e7)
      · exact (upd_ne tbp).trans htb
      · exact tk (B := H7) p7 hbs
end
end K5
set_option Elab.async false
set_option linter.all false
set_option maxRecDepth 100000
set_option maxHeartbeats 4000000
namespace K5
open PySem PySem.Spec PyProof.Rows L2 Evl Xl SX Mi
section
variable {P : Program} {w : World} {K : PySem.W.Frag} {mg : Str → Option Value} {base : Heap} {f : Addr} {fd : FuncData}
def spIsInt (K : PySem.W.Frag) : Sp := fun vs H Q _ => ∃ x T, vs = [x] ∧ TyB K H x T ∧ Q (.bl (decide (T = "int"))) H
theorem scII : FnScope ["value"] ["value"] (C8.fnScope (top 11)) := C8.fnScope_by (by decide +kernel)
theorem ok_is_integer (F : C8.Def K mg "is_integer" (top 11) f fd) (b : Binds K fd ["value"] []) (T : Txt K w mg) : C8.Cal P w K mg base 1 "is_integer" (spIsInt K) [] := by
  refine C8.cal0 F b .nil scII (fun vs H Q E h => by obtain ⟨x, t, rfl, _⟩ := h; rfl) (fun cdv A outer s H vs Q E hr h => ?_)
  obtain ⟨x, t, rfl, ht, k⟩ := h
  refine ⟨_, pss_one (ps_ret (pe_cmpR op_isTy (pe_callTy call_type1 (by rfl) T.type_ (by decide +kernel) (pa_cons (pv 0) pa_nil)) (pe_bltn (v := .ty "int") (by rfl) T.int_ (by decide +kernel) rfl) (nomark _))), ?_⟩
  exact ⟨_, rfl, _, _, rfl, ht, _, _, rfl, rfl, k⟩
def spIsRow (K : PySem.W.Frag) : Sp := fun vs H Q _ => ∃ (x : V) (m : Int), vs = [x, .int m] ∧ ((∃ T, TyB K H x T ∧ T ≠ "tuple" ∧ ∀ H', Ex H H' → Q (.bl false) H') ∨ ∃ t xs, x = .ref t ∧ SqT K H t xs ∧ ∀ H', Ex H H' → Q (.bl (decide ((xs.length : Int) = m))) H')
theorem scIR : FnScope ["value", "many"] ["value", "many"] (C8.fnScope (top 12)) := C8.fnScope_by (by decide +kernel)
theorem ok_is_row (F : C8.Def K mg "is_row" (top 12) f fd) (b : Binds K fd ["value", "many"] []) (T : Txt K w mg) : C8.Cal P w K mg base 1 "is_row" (spIsRow K) [] := by
  refine C8.cal0 F b .nil scIR (fun vs H Q E h => by obtain ⟨x, m, rfl, _⟩ := h; rfl) (fun cdv A outer s H vs Q E hr h => ?_)
  obtain ⟨x, m, rfl, h⟩ := h
  refine ⟨_, pss_one (ps_ret (pe_and (pe_cmpR op_isTy (pe_callTy call_type1 (by rfl) T.type_ (by decide +kernel) (pa_cons (pv 0) pa_nil)) (pe_bltn (v := .ty "tuple") (by rfl) T.tuple_ (by decide +kernel) rfl) (nomark _))
    (pe_one (pe_cmpR op_eq (pe_callB call_len_seq (by rfl) T.len_ boot_len (pa_cons (pv 0) pa_nil)) (pv 1) (nomark _))))), ?_⟩
  rcases h with ⟨t, ht, z, k0⟩ | ⟨a, xs, rfl, hs, k1⟩
  · refine s_ret (v := .bl false) (ev_is (ev_andV (a := false) (b := false) (fun H1 e1 Q' q => ⟨_, rfl, _, _, rfl, TyB_ex ht e1, _, _, rfl, rfl, by rw [decide_eq_false z]; exact q H1 (Ex.refl H1)⟩) fun y => (by cases y)) rfl) fun H1 e1 => k0 H1 e1
  · refine s_ret (v := .bl (decide ((xs.length : Int) = m))) (ev_is (ev_andV (a := true) (b := decide ((xs.length : Int) = m)) (fun H1 e1 Q' q => ⟨_, rfl, _, _, rfl, .tup (hs.imp (ex_rd e1) id), _, _, rfl, rfl, by rw [decide_eq_true rfl]; exact q H1 (Ex.refl H1)⟩) fun _ => ev_is (ev_op (fun H1 e1 Q' q => ⟨_, rfl, a, xs, rfl, .inr (hs.imp (ex_rd e1) id), q H1 (Ex.refl H1)⟩) (ev_var rfl) (rv_eq rfl)) (by congr 1; exact decide_eq_decide.mpr ⟨fun y => V.int.inj y, fun y => by rw [y]⟩)) rfl) fun H1 e1 => k1 H1 e1
end
end K5
set_option Elab.async false
set_option linter.all false
set_option maxRecDepth 100000
set_option maxHeartbeats 4000000
namespace K5
open PySem PySem.Spec PyProof.Rows L2 Evl Xl SX Mi
theorem ev_din {ty td : TE} {σ : L2.St} {H : Hp} {a : Addr} {y : V} {o : Option V} (hy : Ev ty σ H y) (h : Ev td σ H (.ref a)) (hd : ∀ H1, Ex H H1 → DGet H1 a y o) : Ev (tDIn ty td) σ H (.bl o.isSome) :=
  fun H1 e Q q => hy H1 e _ fun H2 e2 => h H2 (e.trans e2) _ fun H3 e3 => ⟨a, o, rfl, hd H3 ((e.trans e2).trans e3), q H3 (e2.trans e3)⟩
section
variable {P : Program} {w : World} {K : PySem.W.Frag} {mg : Str → Option Value} {base : Heap} {f : Addr} {fd : FuncData}
def spIsPlace (K : PySem.W.Frag) (CP : Addr) : Sp := fun vs H Q _ => ∃ (p : Addr) (x : V), vs = [.ref p, x] ∧
  ((∃ T, TyB K H x T ∧ T ≠ "tuple" ∧ ∀ H', Ex H H' → Q (.bl false) H') ∨
   ∃ (t dx D : Addr) (nm : Str) (n : Int) (fs : List (Str × V)) (kvs : List (List Key × V)), x = .ref t ∧ H t = some (.tup [.str nm, .int n]) ∧ H p = some (.ins CP dx fs) ∧ fs.lookup ("nodes" : Str) = some (.ref D) ∧ H D = some (.dT kvs) ∧ ∀ H', Ex H H' → Q (.bl (valV kvs [.inr nm, .inl n]).isSome) H')
abbrev nIP : List Str := ["program", "value", "name", "number"]
theorem scIP : FnScope nIP ["program", "value"] (C8.fnScope (top 37)) := C8.fnScope_by (by decide +kernel)
theorem ok_is_place {CP : Addr} (F : C8.Def K mg "is_place" (top 37) f fd) (b : Binds K fd ["program", "value"] []) (T : Txt K w mg) (G : ProgC K mg CP) (cT : C8.Cal P w K mg base 1 "is_text" (spIsText K) []) (cI : C8.Cal P w K mg base 1 "is_integer" (spIsInt K) []) (cR : C8.Cal P w K mg base 1 "is_row" (spIsRow K) []) : C8.Cal P w K mg base 2 "is_place" (spIsPlace K CP) [] := by
  refine C8.cal0 F b .nil scIP (fun vs H Q E h => by obtain ⟨p, x, rfl, _⟩ := h; rfl) (fun cdv A outer s H vs Q E hr h => ?_)
  obtain ⟨p, x, rfl, h⟩ := h
  refine ⟨_, pss_cons (ps_if (pt_not (pt_val (C8.pe_c cR hr (by decide) (by rfl) (pa_cons (pv 1) (pa_cons pe_int pa_nil))))) (pss_one (ps_ret pe_bl)) pss_nil)
    (pss_cons (ps_asg (pv 1) (pg_tup (by rfl) (pgs_cons (pg_name (i := 2) scIP.nd rfl (.inl rfl)) (pgs_cons (pg_name (i := 3) scIP.nd rfl (.inl rfl)) pgs_nil))))
    (pss_one (ps_ret (pe_and (C8.pe_c cT hr (by decide) (by rfl) (pa_cons (pv 2) pa_nil)) (pe_and (C8.pe_c cI hr (by decide) (by rfl) (pa_cons (pv 3) pa_nil))
      (pe_one (pe_cmp (pc_din (by have := hr.un; show (A.deeper (envOfC "is_place" (C8.fnScope (top 37)) s.heap.objs.size f cdv)).units + 1 < cLine; omega) (pv 1) (pe_fld (pv 0) rfl))))))))), ?_⟩
  rcases h with ⟨t, ht, hne, k⟩ | ⟨t, dx, D, nm, n, fs, kvs, rfl, ht, hp, hf, hD, k⟩
  · refine q_when (b := true) (et_is (et_not (et_B (b := false) (ev_call (ea_cons (ev_var rfl) (ea_cons ev_c ea_nil)) fun H1 e1 Q' q E' => ⟨x, 2, rfl, .inl ⟨t, TyB_ex ht e1, hne, q⟩⟩))) rfl) (fun _ H1 e1 => ?_) (fun z => by cases z)
    exact s_ret ev_c fun H2 e2 => k H2 (e1.trans e2)
  · refine q_when (b := false) (et_is (et_not (et_B (b := true) (ev_call (ea_cons (ev_var rfl) (ea_cons ev_c ea_nil)) fun H1 e1 Q' q E' => ⟨.ref t, 2, rfl, .inr ⟨t, _, rfl, st_of (e1 _ _ ht), q⟩⟩))) rfl) (fun z => by cases z) (fun _ H1 e1 => ?_)
    refine q_two (q := t) (ev_var rfl) (e1 _ _ ht) fun H2 e2 => ?_
    have e12 := e1.trans e2
    refine s_ret (v := .bl (valV kvs [.inr nm, .inl n]).isSome) (ev_is (ev_andV (a := true) (b := (valV kvs [.inr nm, .inl n]).isSome) (ev_call (ea_cons (ev_var rfl) ea_nil) fun H3 e3 Q' q E' => ⟨.str nm, "str", rfl, .str _, q H3 (Ex.refl H3)⟩) fun _ => ev_is (ev_andV (a := true) (b := (valV kvs [.inr nm, .inl n]).isSome) (ev_call (ea_cons (ev_var rfl) ea_nil) fun H3 e3 Q' q E' => ⟨.int n, "int", rfl, .int _, q H3 (Ex.refl H3)⟩) fun _ => ev_din (a := D) (ev_var rfl) (ev_fld (ev_var rfl) (e12 _ _ hp) G.cl G.n4 hf) fun H3 e3 => .inr ⟨kvs, [.inr nm, .inl n], t, .inl (e3 _ _ (e12 _ _ hD)), rfl, e3 _ _ (e12 _ _ ht), rfl⟩) rfl) rfl) fun H3 e3 => k H3 (e12.trans e3)
end
end K5
set_option Elab.async false
set_option linter.all false
set_option maxRecDepth 100000
set_option maxHeartbeats 4000000
namespace K5
open PySem PySem.Spec PyProof.Rows L2 Evl Xl SX Mi
/-- the pair t, the program p, its dict of nodes -/
def AskAt (CP : Addr) (H : Hp) (p t : Addr) (key : List Key) (kvs : List (List Key × V)) : Prop := ∃ (dx D : Addr) (nm : Str) (n : Int) (fs : List (Str × V)), key = [.inr nm, .inl n] ∧ H t = some (.tup [.str nm, .int n]) ∧ H p = some (.ins CP dx fs) ∧ fs.lookup ("nodes" : Str) = some (.ref D) ∧ fs.lookup ("node" : Str) = none ∧ H D = some (.dT kvs)
theorem AskAt.ex {CP p t : Addr} {H H' : Hp} {key : List Key} {kvs : List (List Key × V)} (h : AskAt CP H p t key kvs) (e : Ex H H') : AskAt CP H' p t key kvs := by
  obtain ⟨dx, D, nm, n, fs, a, b, c, d, f, g⟩ := h
  exact ⟨dx, D, nm, n, fs, a, e _ _ b, e _ _ c, d, f, e _ _ g⟩
section
variable {P : Program} {w : World} {K : PySem.W.Frag} {mg : Str → Option Value} {base : Heap} {f : Addr} {fd : FuncData}
def spNd (CP CE : Addr) : Sp := fun vs H Q E => ∃ (p t : Addr) (key : List Key) (kvs : List (List Key × V)), vs = [.ref p, .ref t] ∧ AskAt CP H p t key kvs ∧
  (∀ v, valV kvs key = some v → ∀ H', Ex H H' → Q v H') ∧ (valV kvs key = none → ∀ d H', Ex H H' → H d = none → H' d = some (.xd [("value", .ref t)]) → E (.ref CE) (some d) H')
abbrev sNd : Stmt := inClass (top 36) 7
theorem scNd : FnScope ["self", "place"] ["self", "place"] (C8.fnScope sNd) := C8.fnScope_by (by decide +kernel)
theorem ok_nd {CP CE fI : Addr} {fdI : FuncData} (F : C8.Fun K "node" "Program.node" sNd f fd) (G : ProgC K mg CP) (B : ErrC K mg "BadPlace" CE fI) (FE : FnOk P w K mg base C8.CX0 1 fI fdI ["self", "value"] (spErr K)) (bE : Binds K fdI ["self", "value"] [])
    (cP : C8.Cal P w K mg base 2 "is_place" (spIsPlace K CP) []) : FnOk P w K mg base (L2.CX P w) 3 f fd ["self", "place"] (spNd CP CE) := by
  refine fnX F scNd (fun vs H Q E h => by obtain ⟨p, t, key, kvs, rfl, _⟩ := h; rfl) (fun cdv A outer s H vs Q E hr h => ?_)
  obtain ⟨p, t, key, kvs, rfl, hA, k1, k0⟩ := h
  refine ⟨_, pss_cons (ps_if (pt_not (pt_val (C8.pe_c cP hr (Nat.le_refl _) (by rfl) (pa_cons (pv 0) (pa_cons (pv 1) pa_nil))))) (pss_one (ps_raise rfl (takes_of rfl rfl rfl rfl) (pmk_oex B.ox B.iC B.tI FE (hr.mono (by decide)) bE .nil C8.pass0 (by rfl) B.mgC (pa_cons (pv 1) pa_nil)))) pss_nil)
    (pss_one (ps_ret (pe_dget (by have := hr.un; show (A.deeper (envOfC "Program.node" (C8.fnScope sNd) s.heap.objs.size f cdv)).units + 1 < cLine; omega) (pe_fld (pv 0) rfl) (pv 1) (fun _ _ => rfl)))), ?_⟩
  obtain ⟨dx, D, nm, n, fs, rfl, ht, hp, hf, hf2, hD⟩ := id hA
  refine q_when (b := !(valV kvs [.inr nm, .inl n]).isSome) (et_not (et_B (ev_call (ea_cons (ev_var rfl) (ea_cons (ev_var rfl) ea_nil)) fun H1 e1 Q' q E' => ⟨p, .ref t, rfl, .inr ⟨t, dx, D, nm, n, fs, kvs, rfl, e1 _ _ ht, e1 _ _ hp, hf, e1 _ _ hD, q⟩⟩))) (fun hb H1 e1 => ?_) (fun hb H1 e1 => ?_)
  · have hv : valV kvs [.inr nm, .inl n] = none := by
      cases z : valV kvs [.inr nm, .inl n] with
      | none => rfl
      | some v => rw [z] at hb; cases hb
    exact r_err B (ea_cons (ev_var rfl) ea_nil) fun d H' e hd hd' => k0 hv d H' (e1.trans e) (fresh_back e1 hd) hd'
  · cases hv : valV kvs [.inr nm, .inl n] with
    | none => rw [hv] at hb; cases hb
    | some v => exact s_ret (ev_dget (a := D) (y := .ref t) (ev_fld (ev_var rfl) (e1 _ _ hp) G.cl G.n4 hf) (ev_var rfl) fun H2 e2 => .inr ⟨kvs, [.inr nm, .inl n], t, .inl (e2 _ _ (e1 _ _ hD)), rfl, e2 _ _ (e1 _ _ ht), hv.symm⟩) fun H2 e2 => k1 v hv H2 (e1.trans e2)
def spWd (CP CE C : Addr) : Sp := fun vs H Q E => ∃ (p t : Addr) (key : List Key) (kvs : List (List Key × V)), vs = [.ref p, .ref t] ∧ AskAt CP H p t key kvs ∧
  (∀ v, valV kvs key = some v → ∃ (a dx : Addr) (fs : List (Str × V)) (sg : Str), v = .ref a ∧ H a = some (.ins C dx fs) ∧ fs.lookup ("sign" : Str) = some (.str sg) ∧ ∀ H', Ex H H' → Q (.str sg) H') ∧ (valV kvs key = none → ∀ d H', Ex H H' → H d = none → H' d = some (.xd [("value", .ref t)]) → E (.ref CE) (some d) H')
abbrev sWd : Stmt := inClass (top 36) 8
theorem scWd : FnScope ["self", "place"] ["self", "place"] (C8.fnScope sWd) := C8.fnScope_by (by decide +kernel)
theorem ok_wd {CP CE C fN : Addr} {fdN : FuncData} (F : C8.Fun K "word" "Program.word" sWd f fd) (G : ProgC K mg CP) (N : NodeC K mg C) (M : Meth K CP "node" fN) (FN : FnOk P w K mg base (L2.CX P w) 3 fN fdN ["self", "place"] (spNd CP CE)) (bN : Binds K fdN ["self", "place"] []) : FnOk P w K mg base (L2.CX P w) 4 f fd ["self", "place"] (spWd CP CE C) := by
  refine fnX F scWd (fun vs H Q E h => by obtain ⟨p, t, key, kvs, rfl, _⟩ := h; rfl) (fun cdv A outer s H vs Q E hr h => ?_)
  obtain ⟨p, t, key, kvs, rfl, hA, k1, k0⟩ := h
  refine ⟨_, pss_one (ps_ret (pe_fld (pe_meth (E := E) (pv 0) G.cl M FN hr bN .nil (fun pins σ H s e s' I h => passAt (takes_of rfl rfl rfl rfl) σ pins H s e s' I h) (pa_cons (pv 1) pa_nil)) rfl)), ?_⟩
  obtain ⟨dx, D, nm, n, fs, hk, ht, hp, hf, hf2, hD⟩ := id hA
  refine ⟨_, rfl, p, dx, fs, rfl, hp, hf2, _, rfl, p, t, key, kvs, rfl, hA, fun v hv H' e => ?_, k0⟩
  obtain ⟨a, dx2, fs2, sg, rfl, ha, hs, kk⟩ := k1 v hv
  exact ⟨a, C, dx2, fs2, .str sg, rfl, e _ _ ha, N.cl, N.n2, hs, kk H' e⟩
end
end K5
set_option Elab.async false
set_option linter.all false
set_option maxRecDepth 100000
set_option maxHeartbeats 4000000
namespace K5
open PySem PySem.Spec PyProof.Rows L2 Evl Xl SX Mi
/-- the field of a node that names another one, or None: what its place is -/
def PlaceOf (C : Addr) (H : Hp) (x r : V) : Prop := (x = .non ∧ r = .non) ∨ ∃ (a dx : Addr) (fs : List (Str × V)), x = .ref a ∧ H a = some (.ins C dx fs) ∧ fs.lookup ("place" : Str) = some r
theorem PlaceOf.ex {C : Addr} {H H' : Hp} {x r : V} (h : PlaceOf C H x r) (e : Ex H H') : PlaceOf C H' x r := h.imp id fun ⟨a, dx, fs, h1, h2, h3⟩ => ⟨a, dx, fs, h1, e _ _ h2, h3⟩
def spOne (fld : Str) (CP CE C : Addr) : Sp := fun vs H Q E => ∃ (p t : Addr) (key : List Key) (kvs : List (List Key × V)), vs = [.ref p, .ref t] ∧ AskAt CP H p t key kvs ∧
  (∀ v, valV kvs key = some v → ∃ (a dx : Addr) (fs : List (Str × V)) (x r : V), v = .ref a ∧ H a = some (.ins C dx fs) ∧ fs.lookup fld = some x ∧ PlaceOf C H x r ∧ ∀ H', Ex H H' → Q r H') ∧ (valV kvs key = none → ∀ d H', Ex H H' → H d = none → H' d = some (.xd [("value", .ref t)]) → E (.ref CE) (some d) H')
theorem q_asgR {te : TE} {σ : L2.St} {H : Hp} {D : Ends} {tz : TS} {i : Nat} (h : te σ H fun v H1 => tz D (σ.set i (some v)) H1) : tSeq (tAsg te (gName i)) tz D σ H := h
section
variable {P : Program} {w : World} {K : PySem.W.Frag} {mg : Str → Option Value} {base : Heap} {f : Addr} {fd : FuncData}
abbrev sAr : Stmt := inClass (top 36) 10
theorem scAr : FnScope ["self", "place", "outer"] ["self", "place"] (C8.fnScope sAr) := C8.fnScope_by (by decide +kernel)
theorem ok_around {CP CE C fN : Addr} {fdN : FuncData} (F : C8.Fun K "around" "Program.around" sAr f fd) (G : ProgC K mg CP) (N : NodeC K mg C) (M : Meth K CP "node" fN) (FN : FnOk P w K mg base (L2.CX P w) 3 fN fdN ["self", "place"] (spNd CP CE)) (bN : Binds K fdN ["self", "place"] []) : FnOk P w K mg base (L2.CX P w) 4 f fd ["self", "place"] (spOne "outer" CP CE C) := by
  refine fnX F scAr (fun vs H Q E h => by obtain ⟨p, t, key, kvs, rfl, _⟩ := h; rfl) (fun cdv A outer s H vs Q E hr h => ?_)
  obtain ⟨p, t, key, kvs, rfl, hA, k1, k0⟩ := h
  refine ⟨_, pss_cons (ps_set (i := 2) scAr.nd rfl (Or.inl rfl) (pe_fld (pe_meth (E := E) (pv 0) G.cl M FN hr bN .nil (fun pins σ H s e s' I h => passAt (takes_of rfl rfl rfl rfl) σ pins H s e s' I h) (pa_cons (pv 1) pa_nil)) rfl))
    (pss_one (ps_ret (pe_ifExp (pt_cmp (pc_isN (pv 2))) pe_non (pe_fld (pv 2) rfl)))), ?_⟩
  obtain ⟨dx, D, nm, n, fs, hk, ht, hp, hf, hf2, hD⟩ := id hA
  refine q_asgR ⟨_, rfl, p, dx, fs, rfl, hp, hf2, _, rfl, p, t, key, kvs, rfl, hA, fun v hv H' e => ?_, k0⟩
  obtain ⟨a, dx2, fs2, x, r, rfl, ha, hs, hx, kk⟩ := k1 v hv
  refine ⟨a, C, dx2, fs2, x, rfl, e _ _ ha, N.cl, N.n5, hs, ?_⟩
  rcases hx.ex e with ⟨rfl, rfl⟩ | ⟨b, dx3, fs3, rfl, hb, hr3⟩
  · exact s_ret (ev_if (b := true) (et_in (ev_var rfl)) (fun _ => ev_c) fun z => (by cases z)) fun H2 e2 => kk H2 (e.trans e2)
  · exact s_ret (ev_if (b := false) (et_ir (a := b) (ev_var rfl)) (fun z => (by cases z)) fun _ => ev_fld (ev_var rfl) hb N.cl N.n1 hr3) fun H2 e2 => kk H2 (e.trans e2)
abbrev sBd : Stmt := inClass (top 36) 11
theorem scBd : FnScope ["self", "place", "binder"] ["self", "place"] (C8.fnScope sBd) := C8.fnScope_by (by decide +kernel)
theorem ok_bound {CP CE C fN : Addr} {fdN : FuncData} (F : C8.Fun K "bound" "Program.bound" sBd f fd) (G : ProgC K mg CP) (N : NodeC K mg C) (M : Meth K CP "node" fN) (FN : FnOk P w K mg base (L2.CX P w) 3 fN fdN ["self", "place"] (spNd CP CE)) (bN : Binds K fdN ["self", "place"] []) : FnOk P w K mg base (L2.CX P w) 4 f fd ["self", "place"] (spOne "binder" CP CE C) := by
  refine fnX F scBd (fun vs H Q E h => by obtain ⟨p, t, key, kvs, rfl, _⟩ := h; rfl) (fun cdv A outer s H vs Q E hr h => ?_)
  obtain ⟨p, t, key, kvs, rfl, hA, k1, k0⟩ := h
  refine ⟨_, pss_cons (ps_set (i := 2) scBd.nd rfl (Or.inl rfl) (pe_fld (pe_meth (E := E) (pv 0) G.cl M FN hr bN .nil (fun pins σ H s e s' I h => passAt (takes_of rfl rfl rfl rfl) σ pins H s e s' I h) (pa_cons (pv 1) pa_nil)) rfl))
    (pss_one (ps_ret (pe_ifExp (pt_cmp (pc_isN (pv 2))) pe_non (pe_fld (pv 2) rfl)))), ?_⟩
  obtain ⟨dx, D, nm, n, fs, hk, ht, hp, hf, hf2, hD⟩ := id hA
  refine q_asgR ⟨_, rfl, p, dx, fs, rfl, hp, hf2, _, rfl, p, t, key, kvs, rfl, hA, fun v hv H' e => ?_, k0⟩
  obtain ⟨a, dx2, fs2, x, r, rfl, ha, hs, hx, kk⟩ := k1 v hv
  refine ⟨a, C, dx2, fs2, x, rfl, e _ _ ha, N.cl, N.n7, hs, ?_⟩
  rcases hx.ex e with ⟨rfl, rfl⟩ | ⟨b, dx3, fs3, rfl, hb, hr3⟩
  · exact s_ret (ev_if (b := true) (et_in (ev_var rfl)) (fun _ => ev_c) fun z => (by cases z)) fun H2 e2 => kk H2 (e.trans e2)
  · exact s_ret (ev_if (b := false) (et_ir (a := b) (ev_var rfl)) (fun z => (by cases z)) fun _ => ev_fld (ev_var rfl) hb N.cl N.n1 hr3) fun H2 e2 => kk H2 (e.trans e2)
end
end K5
set_option Elab.async false
set_option linter.all false
set_option maxRecDepth 100000
set_option maxHeartbeats 4000000
namespace K5
open PySem PySem.Spec PyProof.Rows L2 Evl Xl SX Mi
section
variable {P : Program} {w : World} {K : PySem.W.Frag} {mg : Str → Option Value} {base : Heap} {f : Addr} {fd : FuncData}
def spIn (CP CE C : Addr) : Sp := fun vs H Q E => ∃ (p t : Addr) (key : List Key) (kvs : List (List Key × V)), vs = [.ref p, .ref t] ∧ AskAt CP H p t key kvs ∧
  (∀ v, valV kvs key = some v → ∃ (a dx wl : Addr) (fs : List (Str × V)) (as ts : List Addr), v = .ref a ∧ H a = some (.ins C dx fs) ∧ fs.lookup ("within" : Str) = some (.ref wl) ∧ H wl = some (.lst (as.map V.ref)) ∧ as.length ≤ 1000 ∧ as.length = ts.length ∧
    (∀ (i : Nat) (x : Addr), as[i]? = some x → ∃ (dx2 : Addr) (fs2 : List (Str × V)) (y : Addr), ts[i]? = some y ∧ H x = some (.ins C dx2 fs2) ∧ fs2.lookup ("place" : Str) = some (.ref y)) ∧ ∀ r H', Ex H H' → H' r = some (.tup (ts.map V.ref)) → Q (.ref r) H') ∧
  (valV kvs key = none → ∀ d H', Ex H H' → H d = none → H' d = some (.xd [("value", .ref t)]) → E (.ref CE) (some d) H')
abbrev sIn : Stmt := inClass (top 36) 9
theorem scIn : FnScope ["self", "place", "node"] ["self", "place"] (C8.fnScope sIn) := C8.fnScope_by (by decide +kernel)
theorem ok_inner {CP CE C fN : Addr} {fdN : FuncData} (F : C8.Fun K "inner" "Program.inner" sIn f fd) (T : Txt K w mg) (G : ProgC K mg CP) (N : NodeC K mg C) (M : Meth K CP "node" fN) (FN : FnOk P w K mg base (L2.CX P w) 3 fN fdN ["self", "place"] (spNd CP CE)) (bN : Binds K fdN ["self", "place"] []) : FnOk P w K mg base (L2.CX P w) 4 f fd ["self", "place"] (spIn CP CE C) := by
  refine fnX F scIn (fun vs H Q E h => by obtain ⟨p, t, key, kvs, rfl, _⟩ := h; rfl) (fun cdv A outer s H vs Q E hr h => ?_)
  obtain ⟨p, t, key, kvs, rfl, hA, k1, k0⟩ := h
  refine ⟨_, pss_one (ps_ret (pe_tupleOf (by rfl) T.tuple_ (pe_lc (own := [("node", 2)]) (g := gName 2) (tt := tYes) (te := tFld K (tVar 2) "place") rfl scIn.nd (pi_list (pe_fld (pe_meth (E := E) (pv 0) G.cl M FN hr bN .nil (fun pins σ H s e s' I h => passAt (takes_of rfl rfl rfl rfl) σ pins H s e s' I h) (pa_cons (pv 1) pa_nil)) rfl))
      (blkOk_by (N := ["self", "place", "node"]) (sc := C8.fnScope sIn) (by decide +kernel)) (fun _ _ _ _ _ => pg_name (i := 2) scIn.nd rfl (Or.inl rfl)) (fun _ _ _ _ _ => pts_nil) (fun _ _ _ _ _ => pe_fld (pv 2) (by rfl))))), ?_⟩
  obtain ⟨dx, D, nm, n, fs, hk, ht, hp, hf, hf2, hD⟩ := id hA
  refine ⟨_, rfl, p, dx, fs, rfl, hp, hf2, _, rfl, p, t, key, kvs, rfl, hA, fun v hv H' e => ?_, k0⟩
  obtain ⟨a, dx2, wl, fs2, as, ts, rfl, ha, hs, hwl, hal, hlen, hev, kk⟩ := k1 v hv
  have hwl' := e _ _ hwl
  refine ⟨a, C, dx2, fs2, .ref wl, rfl, e _ _ ha, N.cl, N.n6, hs, wl, rfl, ⟨_, sq_of hwl'⟩, fun DL hDL => ?_⟩
  refine comp_walk (body := fun x H' Nx => gName 2 x (wipe ([some (.ref p), some (.ref t), none] : L2.St) [2]) H' fun σ2 H2 => wipe σ2 [2] = wipe ([some (.ref p), some (.ref t), none] : L2.St) [2] ∧ tYes σ2 H2 fun b H3 => if b = true then tFld K (tVar 2) "place" σ2 H3 fun y H4 => ∃ acc, H4 DL = some (.lst acc) ∧ acc.length < sizeLine ∧ Nx (upd H4 DL (.lst (acc ++ [y]))) else Nx H3)
    (walk_list (K := K) (a := wl) (xs := as.map V.ref)) (fun i G => Ex H' G ∧ G DL = some (.lst ((ts.take i).map V.ref))) ⟨ex_put hDL (Ex.refl H'), upd_same⟩ (fun i G _ hp => sq_of (hp.1 _ _ hwl')) (fun i G x G' hi hp hy => ?_) (fun G hp => ?_)
  · obtain ⟨rfl, hx⟩ := hy
    obtain ⟨eG, hd⟩ := hp
    rw [List.getElem?_map] at hx
    cases z : as[i]? with
    | none => rw [z] at hx; cases hx
    | some b =>
      rw [z] at hx
      obtain rfl : V.ref b = x := Option.some.inj hx
      obtain ⟨dx3, fs3, y, hy, hb, hpl⟩ := hev i b z
      refine ⟨rfl, ?_⟩
      refine ⟨_, rfl, b, C, dx3, fs3, .ref y, rfl, eG _ _ (e _ _ hb), N.cl, N.n1, hpl, _, hd, ?_, ex_put hDL eG, ?_⟩
      · rw [List.length_map, List.length_take, sizeLine_eq]; omega
      · rw [upd_same, List.take_add_one, hy, List.map_append]
        rfl
  · obtain ⟨eG, hd⟩ := hp
    have lx : (as.map V.ref).length = ts.length := by rw [List.length_map, hlen]
    rw [lx, List.take_length] at hd
    refine .inl ⟨DL, _, rfl, sq_of hd, fun r hr0 => kk r _ ((e.trans eG).trans (ex_put hr0 (Ex.refl G))) upd_same⟩
end
end K5
set_option Elab.async false
set_option linter.all false
set_option maxRecDepth 100000
set_option maxHeartbeats 4000000
namespace K5
open PySem PySem.Spec PyProof.Rows L2 Evl Xl SX Mi
section
variable {P : Program} {w : World} {K : PySem.W.Frag} {mg : Str → Option Value} {base : Heap} {f : Addr} {fd : FuncData}
def spLi (CP CE : Addr) : Sp := fun vs H Q E => ∃ (p dx D : Addr) (nm : Str) (fs : List (Str × V)) (kvs : List (Key × V)), vs = [.ref p, .str nm] ∧ H p = some (.ins CP dx fs) ∧ fs.lookup ("_lines" : Str) = some (.ref D) ∧ H D = some (.dK kvs) ∧
  (∀ v, valV kvs (.inr nm) = some v → ∀ H', Ex H H' → Q v H') ∧ (valV kvs (.inr nm) = none → ∀ d H', Ex H H' → H d = none → H' d = some (.xd [("value", .str nm)]) → E (.ref CE) (some d) H')
abbrev sLi : Stmt := inClass (top 36) 6
theorem scLi : FnScope ["self", "name"] ["self", "name"] (C8.fnScope sLi) := C8.fnScope_by (by decide +kernel)
theorem ok_li {CP CE fI : Addr} {fdI : FuncData} (F : C8.Fun K "line" "Program.line" sLi f fd) (G : ProgC K mg CP) (B : ErrC K mg "NoPart" CE fI) (FE : FnOk P w K mg base C8.CX0 1 fI fdI ["self", "value"] (spErr K)) (bE : Binds K fdI ["self", "value"] [])
    (cT : C8.Cal P w K mg base 1 "is_text" (spIsText K) []) : FnOk P w K mg base (L2.CX P w) 3 f fd ["self", "name"] (spLi CP CE) := by
  refine fnX F scLi (fun vs H Q E h => by obtain ⟨p, dx, D, nm, fs, kvs, rfl, _⟩ := h; rfl) (fun cdv A outer s H vs Q E hr h => ?_)
  obtain ⟨p, dx, D, nm, fs, kvs, rfl, hp, hf, hD, k1, k0⟩ := h
  have hu : (A.deeper (envOfC "Program.line" (C8.fnScope sLi) s.heap.objs.size f cdv)).units + 1 < cLine := by have := hr.un; omega
  refine ⟨_, pss_cons (ps_if (pw_or (pt_not (pt_val (C8.pe_c cT hr (by decide) (by rfl) (pa_cons (pv 1) pa_nil)))) (pw_or1 (pt_cmp (pc_dnotin hu (pv 1) (pe_fld (pv 0) rfl))))).pt (pss_one (ps_raise rfl (takes_of rfl rfl rfl rfl) (pmk_oex B.ox B.iC B.tI FE (hr.mono (by decide)) bE .nil C8.pass0 (by rfl) B.mgC (pa_cons (pv 1) pa_nil)))) pss_nil)
    (pss_one (ps_ret (pe_dget hu (pe_fld (pv 0) rfl) (pv 1) (fun _ _ => rfl)))), ?_⟩
  have dg : ∀ {H1 : Hp}, Ex H H1 → DGet H1 D (.str nm) (valV kvs (.inr nm)) := fun e => DGet.k (k := .inr nm) (e _ _ hD)
  refine q_when (b := !(valV kvs (.inr nm)).isSome) (et_is (et_or (a := false) (b := !(valV kvs (.inr nm)).isSome) (et_is (et_not (et_B (b := true) (ev_call (ea_cons (ev_var rfl) ea_nil) fun H1 e1 Q' q E' => ⟨.str nm, "str", rfl, .str _, q H1 (Ex.refl H1)⟩))) rfl) fun _ => et_B (fun H1 e1 Q' q => ⟨_, rfl, ?_⟩)) rfl) (fun hb H1 e1 => ?_) (fun hb H1 e1 => ?_)
  · exact (ev_fld (K := K) (f := "_lines") (ev_var rfl : Ev (tVar 0) (start ["self", "name"] [V.ref p, .str nm]) H1 (.ref p)) (e1 _ _ hp) G.cl G.n2 hf) H1 (Ex.refl H1) _ fun H2 e2 => ⟨D, _, rfl, dg (e1.trans e2), q H2 e2⟩
  · have hv : valV kvs (.inr nm) = none := by
      cases z : valV kvs (.inr nm) with
      | none => rfl
      | some v => rw [z] at hb; cases hb
    exact r_err B (ea_cons (ev_var rfl) ea_nil) fun d H' e hd hd' => k0 hv d H' (e1.trans e) (fresh_back e1 hd) hd'
  · cases hv : valV kvs (.inr nm) with
    | none => rw [hv] at hb; cases hb
    | some v => exact s_ret (ev_dget (a := D) (y := .str nm) (ev_fld (ev_var rfl) (e1 _ _ hp) G.cl G.n2 hf) (ev_var rfl) fun H2 e2 => by rw [← hv]; exact dg (e1.trans e2)) fun H2 e2 => k1 v hv H2 (e1.trans e2)
end
end K5
set_option Elab.async false
set_option linter.all false
set_option maxRecDepth 100000
set_option maxHeartbeats 4000000
namespace Xt
open PySem PySem.Spec PyProof.Rows L2
def mergeT (kvs more : List (List Key × V)) : List (List Key × V) := more.foldl (fun acc kv => putK acc kv.1 kv.2) kvs
theorem kt_merge {H : Hp} : ∀ {more : List (List Key × V)} {rs : List (List Key × Addr × Value)} {kvs : List (List Key × V)} {xs : List (List Key × Addr × Value)}, KT H more rs → KT H kvs xs → KT H (mergeT kvs more) (storedAllH xs rs) := by
  intro more rs kvs xs r
  unfold KT at r
  induction r generalizing kvs xs with
  | nil => intro q; exact q
  | @cons p q ps qs h t ih =>
    intro r0
    obtain ⟨h1, h2, h3⟩ := h
    have e : KT H (putK kvs p.1 p.2) (storedH xs q.1 q.2.1 q.2.2) := by
      have z := KT.put r0 p.1 h2 h3
      rw [h1] at z ⊢
      exact z
    exact ih e
theorem mergeT_len : ∀ (more kvs : List (List Key × V)), (mergeT kvs more).length ≤ kvs.length + more.length
  | [], kvs => Nat.le_refl _
  | p :: r, kvs => by
    have h1 := mergeT_len r (putK kvs p.1 p.2)
    have h2 := length_putK kvs p.1 p.2
    have e : mergeT kvs (p :: r) = mergeT (putK kvs p.1 p.2) r := rfl
    rw [e, List.length_cons]
    omega
section
variable {X : Cx}
/-- d.update(e), both with tuple keys -/
def rUpd : V → List V → Hp → VK → Prop := fun x vs H Q => ∃ (d o : Addr) (kvs more : List (List Key × V)), x = .ref d ∧ vs = [.ref o] ∧ d ≠ o ∧ H d = some (.dT kvs) ∧ H o = some (.dT more) ∧ kvs ≠ [] ∧ kvs.length + more.length ≤ sizeLine ∧ Q .non (upd H d (.dT (mergeT kvs more)))
theorem mt_update (hu : X.A.units + 1 < cLine) : MtR X "dict.update" rUpd := by
  intro pins s σ H x vs v us Q I rx rv h
  obtain ⟨d, o, kvs, more, rfl, rfl, hne, hd, ho, hk, hz, q⟩ := h
  obtain rfl : v = Value.ref d := rx
  obtain ⟨u, rfl, ru⟩ := rv.one
  obtain rfl : u = Value.ref o := ru
  obtain ⟨z, hsd, xs, rel, dd⟩ := dt_of I.hok hd
  obtain ⟨z2, hso, ys, rel2, dd2⟩ := dt_of I.hok ho
  refine call_update_dictH (tupleKind_room_in1 hu) hne hso dd dd2 (.inl fun e => ?_) (by rw [← Paired.length rel, ← Paired.length rel2]; exact hz) fun h' dd' _ hs => ?_
  · subst e
    have := Paired.length rel
    exact hk (List.length_eq_zero_iff.mp this)
  · obtain ⟨q0, es, ep, hq, h2, h3, h4, _, h5⟩ := dd'
    refine ⟨.non, _, d_write (ob := .dT (mergeT kvs more)) (t' := s.toks) I (by rw [hd]; exact True.intro) hs ⟨q0, hq⟩ ⟨Nat.le_trans (mergeT_len more kvs) hz, hsd, _, (kt_merge rel2 rel).keeps fun c ys ec => ?_, q0, es, ep, hq, h2, h3, h4, h5⟩, rfl, q⟩
    rw [upd_ne (ne_of ec hd (fun z => nomatch z))]
    exact ec
/-- the written pairs: their keys are tuples that stand -/
abbrev TKeys (H : Hp) : List (V × V) → List (List Key × V) → Prop := Paired fun x kv => (∃ b : Addr, x.1 = .ref b ∧ H b = some (.tup (kv.1.map kV))) ∧ x.2 = kv.2
def tDispT (trs : List (TE × TE)) : TE := fun σ H Q => ∀ p, H p = none → tPairs trs σ (upd H p (.dT [])) fun ps H2 => H2 p = some (.dT []) ∧ ∃ kvs : List (List Key × V), TKeys H2 ps kvs ∧ kvs.length ≤ 15 ∧ Q (.ref p) (upd H2 p (.dT (mergeT [] kvs)))
theorem carries_t {P : Program} {w : World} {H : Hp} {h : Heap} (ok : HOk P w H h) : ∀ {ps : List (V × V)} {kvs : List (List Key × V)} {ws : List (Value × Value)}, TKeys H ps kvs → VV ps ws → ∃ rs, CarriesH (tupleKind (mixKind P w)) h ws rs ∧ KT H kvs rs := by
  intro ps kvs ws r
  unfold TKeys at r
  induction r generalizing ws with
  | nil =>
    intro v
    cases v
    exact ⟨[], trivial, .nil⟩
  | @cons p q ps qs hd t ih =>
    intro v
    cases v with
    | @cons a b as bs h1 h2 =>
      obtain ⟨rs, c, k⟩ := ih h2
      obtain ⟨⟨ad, e1, e2⟩, e3⟩ := hd
      obtain ⟨b1, b2⟩ := b
      obtain ⟨r1, r2⟩ := h1
      rw [e1] at r1
      rw [e3] at r2
      obtain rfl : b1 = Value.ref ad := r1
      exact ⟨(q.1, ad, b2) :: rs, ⟨rfl, rfl, key_of ok e2, c⟩, .cons ⟨rfl, e2, r2⟩ k⟩
theorem pe_dispT {pos : Pos} {keys : List (Option Expr)} {values : List Expr} {trs : List (TE × TE)} (hu : X.A.units < cLine) (h : PPs X pos keys values trs) (hall : keys.all (·.isSome) = true) (hl : keys.length = values.length)
    (h0 : pairTrees keys values X.env pos ≠ []) (h15 : (pairTrees keys values X.env pos).length ≤ 15) : PE X (.Dict keys values pos) (tDispT trs) := by
  refine ⟨fun pins s σ H Q I q => ?_⟩
  have J := I.laid (a := s.heap.objs.size) (o := .dT []) (h' := s.heap.push { cls := .type "dict", data := .dict #[] }) (t' := s.toks) (fun b u e => Heap.get?_push_of_some _ e) (Nat.le_refl _) (dt_empty s.heap I.big)
  rw [arm_eval_Dict, zip_pairTrees keys values X.env pos hall hl, dictDisplay_pairs _ h0 (by omega)]
  have run := h.run pins _ σ _ _ J (q _ (I.hok.fresh (Nat.le_refl s.heap.objs.size)))
  refine wpAny_bind (wpAny_standAt (wpAny_bind ?_))
  refine wpAny_subDictH (knd := tupleKind (mixKind X.prog X.w)) hu h15 (thn run fun ws s2 z => ?_)
  obtain ⟨ps, H2, I2, rel, e, kvs, tk, lk, q2⟩ := z
  obtain ⟨rs, c, k⟩ := carries_t I2.hok tk rel
  obtain ⟨z, hsd, xs, rel0, dd⟩ := dt_of I2.hok e
  cases rel0
  refine ⟨rs, c, dd, fun h' tk' dd' hs => wpAny_pure ?_⟩
  obtain ⟨q0, es, ep, hq, h2, h3, h4, _, h5⟩ := dd'
  refine ⟨.ref s.heap.objs.size, _, d_write (ob := .dT (mergeT [] kvs)) (t' := tk') I2 (by rw [e]; exact True.intro) hs ⟨q0, hq⟩ ⟨?_, hsd, _, (kt_merge k .nil).keeps fun c ys ec => ?_, q0, es, ep, hq, h2, h3, h4, h5⟩, rfl, q2⟩
  · have := mergeT_len kvs []
    rw [List.length_nil] at this
    rw [sizeLine_eq]
    omega
  · rw [upd_ne (ne_of ec e (fun z => nomatch z))]
    exact ec
def rRepr (K : PySem.W.Frag) : List V → Hp → VK → Prop := fun xs H Q => ∃ x d, xs = [x] ∧ Dp K H x d ∧ d.showable = true ∧ d.hasDict = false ∧ d.depth ≤ 50 ∧ d.shown.length ≤ sizeLine ∧ Q (.str d.shown) H
theorem call_repr_data (hg : X.A.guards = some []) (hu : X.A.units + 64 < cLine) : CallR X (.builtin "repr") (rRepr X.K) := by
  intro pins s σ H xs us Q I r h
  obtain ⟨x, d, rfl, hd, hs, hD, hdp, hz, q⟩ := h
  obtain ⟨u, rfl, ru⟩ := vals1 r
  obtain ⟨as, rd⟩ := Dp.reads I d x u hd ru
  have toRef : ∀ {a : Addr}, u = .ref a → wpAny (model X.prog X.w) X.A (call (.builtin "repr") [u]) (EP X pins σ Q) X.xe s := fun {a} e => by
    subst e
    exact repr_of_reads' rd hs (fun z => by rw [hD] at z; cases z) hg (by omega) (fun _ _ e => e) (fun h' u tk hk => ⟨.str d.shown, H, I.kept hk, ⟨u, rfl⟩, q⟩) hz
  cases hd with
  | non =>
    obtain rfl : u = Value.none := ru
    rw [PyData.shown_none] at q
    exact PySem.P.repr_of_none ⟨.str "None", H, I.tok _, ⟨_, rfl⟩, q⟩
  | bl b =>
    obtain rfl : u = Value.bool b := ru
    rw [PyData.shown_bool] at q
    exact PySem.P.repr_of_bool ⟨.str _, H, I.tok _, ⟨_, rfl⟩, q⟩
  | int i =>
    obtain ⟨t, rfl⟩ := ru
    rw [PyData.shown_int] at q
    have hi : i.natAbs.log2 < 1920 := by simpa [PyData.showable] using hs
    exact PySem.P.repr_of_int hi ⟨.str _, H, I.tok _, ⟨_, rfl⟩, q⟩
  | str x =>
    obtain ⟨t, rfl⟩ := ru
    rw [PyData.shown_str] at q hz
    exact PySem.P.repr_of_str ⟨.str _, H, I.tok _, ⟨_, rfl⟩, q⟩ hz
  | lst h1 h2 => exact toRef ru
  | tup h1 h2 => exact toRef ru
end
end Xt
set_option Elab.async false
set_option linter.all false
set_option maxRecDepth 100000
set_option maxHeartbeats 4000000
namespace Xg
open PySem PySem.Spec PyProof.Rows L2
structure FnG (P : Program) (w : World) (K : PySem.W.Frag) (mg : Str → Option Value) (base : Heap) (CX : CXT) (k : Nat) (f : Addr) (fd : FuncData) (ps : List Str) (sp : Sp) : Prop where
  size : ∀ {vs H Q E}, sp vs H Q E → vs.length = ps.length
  go : ∀ {A : Around} {outer : List Env} {s : Shared} {H : Hp} {args : Args} {us : List Value} {vs : List V} {Q : VK} {E : XK}, A.guards = some [] → Room k A → Env0 P w K mg base A outer s H →
    BindsTo s fd args (ps.zip us) → Vals vs us → sp vs H Q E → codeAny (model P w) A (.call (.ref f) args) (CR CX outer P w H s Q E) s
section
variable {CX : CXT} {P : Program} {w : World} {K : PySem.W.Frag} {mg : Str → Option Value} {base : Heap} {k : Nat} {f : Addr} {fd : FuncData} {N ps : List Str} {sp : Sp}
theorem g_deep {A : Around} {env : Env} (h : A.guards = some []) : (A.deeper env).guards = some [] := h
/-- a def by its body -/
theorem fnG_of {name qual : Str} {params : Arguments} {body : List Stmt} {scope : Scope} {dV kV doc pm cdv ct oc : Value} {an od : Option Addr} {osl : Array (Option Value)}
    (lk : K.lookup f = some ⟨oc, od, .func (PySem.W.fnOf name qual params body scope dV kV doc pm an cdv ct), osl⟩) (hcd : PySem.W.codeIn K cdv qual = true) (S : FnScope N ps scope) (size : ∀ {vs H Q E}, sp vs H Q E → vs.length = ps.length)
    (hb : ∀ (A : Around) (outer : List Env) (s : Shared) (H : Hp) (vs : List V) (Q : VK) (E : XK), A.guards = some [] → Room k (A.deeper (envOfC qual scope s.heap.objs.size f cdv)) → sp vs H Q E →
      ∃ t, PSs (cxOf CX P w K mg base N qual scope f cdv A outer s H E) body t ∧ t { nx := fun _ H' => Q .non H', rt := Q } (start N vs) H) :
    FnG P w K mg base CX (k + 1) f (PySem.W.fnOf name qual params body scope dV kV doc pm an cdv ct) ps sp := by
  refine ⟨size, fun {A outer s H args us vs Q E} hg hr e0 bt r hsp => ?_⟩
  have old : ∀ b o, base.get? b = some o → s.heap.get? b = some o := fun b o e => (e0.bs b o e).1
  have inK := e0.mod.kin.keeps old
  have kinds : ∀ y ∈ ps.zip us, scope.names.lookup y.1 = some .local ∨ (scope.names.lookup y.1 = some .cell ∧ ((cellsFrom (s.heap.objs.size + 1) scope.names []).lookup y.1).isSome = true) := by
    rintro ⟨n, v⟩ hy
    exact (S.par n (List.of_mem_zip hy).1).imp id fun q => ⟨q, PySem.W.cellsFrom_some _ _ _ (.inl q)⟩
  refine codeAny_call_function hr.depth (inK _ _ lk) rfl S.co S.gen rfl (PySem.W.codeRec_of inK hcd) (bt _ _ _ _ (wpAny_newFunctionEnv_cells S.kind kinds fun env he s1 x => ?_))
  subst he
  refine ⟨(e0.mod.nolimit.keeps old).keeps x.toInCall.keep, codeAny_func ?_⟩
  obtain ⟨t, ht, hq⟩ := hb A outer s H vs Q E hg (hr.deeper _) hsp
  refine wpAny_mono (ht.run [] s1 (start N vs) H _ (inv_start S hr.hd e0 (size hsp) r x) hq) (fun fl s' z => ?_) fun e s' z => z
  rcases fl with _ | _ | _ | u
  all_goals first
    | exact (z.choose_spec.choose_spec.2).elim
    | skip
  · obtain ⟨σ', H', J, q⟩ := z
    exact ⟨V.non, H', J.os, J.bare, J.base, J.hok, (rfl : RelV V.non Value.none), q⟩
  · obtain ⟨v, σ', H', J, rv, q⟩ := z
    exact ⟨v, H', J.os, J.bare, J.base, J.hok, rv, q⟩
end
section
variable {X : Cx} {CX : CXT} {k : Nat} {f : Addr} {fd : FuncData} {ps : List Str} {sp : Sp} {dvs : List V} {ds : List Value} {E : XK} {x : Str} {p pos : Pos} {e : Expr} {es : List Expr} {t : TA}
/-- f(e, ..) -/
theorem pe_callG (F : FnG X.prog X.w X.K X.mg X.base CX k f fd ps sp) (g : X.A.guards = some []) (hr : Room k X.A) (hgl : Gl X x) (hm : X.mg x = some (.ref f)) (hk : PySem.W.keepIn X.K (.ref f) = true) (hb : Binds X.K fd ps ds) (hd : Vals dvs ds) (hx : Passes CX X E)
    (ha : PA X (e :: es) t) (hdb : (x == ("__debug__" : Str)) = false := by decide) (he : starEach (e :: es) X.env = (false, eval e X.env) :: starEach es X.env := by rfl) (hpl : (backTo pos (starEach es X.env)).any (·.1) = false := by rfl) :
    PE X (.Call (.Name x p) (e :: es) [] pos) (tCall sp dvs E t) := ⟨fun pins s σ H Q I h => by
  refine wpAny_Call_Name_kw (ld_glob I hgl hm (PySem.W.callWith_K (h₀ := X.base) I.ok.mod.kin hk (thn (ha.run pos pins s σ H _ I h) fun us s1 z => ?_) he hpl) hdb)
  obtain ⟨vs, H1, I1, r, q⟩ := z
  refine ⟨I1.kIn, wpAny_call (codeAny_mono (F.go g hr I1.env0 (hb s1 us I1.kIn ?_) (r.append hd) q) fun res s2 c => ?_)⟩
  · rw [← (r.append hd).length]
    exact F.size q
  · rcases res with er | fl
    · exact hx pins σ H1 s1 er s2 I1 c
    · rcases fl with _ | _ | _ | u
      all_goals first
        | exact I1.after c
        | exact c.elim⟩
end
/-- the law's call, where no repr is under way; cs: the code objects and their tables -/
theorem law_callG {P : Program} {w : World} {K : PySem.W.Frag} {mg mb : Str → Option Value} {CX : CXT} {k : Nat} {fa a : Addr} {cs : List (Addr × Addr)} {fd : FuncData} {x : Str} {sp : Sp} {s : Shared} {vs : List Value} {ns : List Int}
    (KX : K.In s.heap) (hns : s.heap.Ns mainGlobals mg) (hb : s.heap.Ns builtinsNs mb) (hbb : ∀ x : Str, x ≠ "__name__" → mb x = bootBuiltins x) (hlim : s.heap.NoLimit) (hg : s.gens = #[])
    (hT : ∀ p ∈ cs, s.heap.get? p.2 = some { cls := .none, data := .fields #[] }) (nT : ∀ p ∈ cs, K.lookup p.2 = none) (C : ∀ p ∈ cs, PySem.W.CodeHd s.heap p.1 p.2)
    (hbm : ∃ (bm : Addr) (ob : Obj), mg "__builtins__" = some (.ref bm) ∧ bm ≠ builtinsNs ∧ s.heap.get? bm = some ob ∧ ob.cls = .type "module" ∧ ob.dict = some builtinsNs ∧ ob.data = .plain)
    (ha : s.heap.get? a = some { cls := .type "list", data := .seq vs.toArray }) (hi : IntsAre vs ns) (hl : ns.length ≤ sizeLine) (hr : Room k callerA)
    (F : ∀ base : Heap, K.In base → base.Ns mainGlobals mg → (∀ p ∈ cs, LamX.TabB base mg p.1 p.2) → FnG P w K mg base CX k fa fd [x] sp) (hbind : ∀ (s : Shared) (u : Value), BindsTo s fd ⟨[u], []⟩ [(x, u)])
    (hsp : ∀ H : Hp, (∀ p ∈ cs, H p.2 = some (.tbl #[])) → SqL K H a (ns.map V.int) → sp [.ref a] H (fun v _ => v = .bl true) fun _ _ _ => False)
    (hCX : ∀ H e s', CX [] H s (fun _ _ _ => False) e s' → False) :
    codeAny (model P w) callerA (.call (.ref fa) ⟨[.ref a], []⟩) (fun r s' => r = .ok (.ret (.bool true)) ∧ OldK s.heap s'.heap ∧ s'.os = s.os ∧ AllBare s'.gens) s := by
  classical
  let tb : Addr → Prop := fun b => ∃ p ∈ cs, p.2 = b
  let scr : HO := .frz { cls := .type "list", data := .seq vs.toArray } (.lst (ns.map V.int))
  let H : Hp := fun b => if tb b then some (.tbl #[]) else if b = a ∧ K.lookup a = none then some scr else none
  have tbAt : ∀ {b}, tb b → s.heap.get? b = some { cls := .none, data := .fields #[] } := by
    rintro b ⟨p, hp, rfl⟩
    exact hT p hp
  have aNot : ¬ tb a := fun z => by
    have q := tbAt z
    rw [ha] at q
    exact nomatch congrArg Obj.data (Option.some.inj q)
  have hTb : ∀ {b}, tb b → H b = some (.tbl #[]) := fun z => if_pos z
  have look : ∀ b u, H b = some u → (tb b ∧ u = .tbl #[]) ∨ (b = a ∧ K.lookup a = none ∧ u = scr) := fun b u z => by
    by_cases c1 : tb b
    · rw [hTb c1] at z
      exact .inl ⟨c1, (Option.some.inj z).symm⟩
    · have z2 : (if b = a ∧ K.lookup a = none then some scr else none) = some u := (if_neg c1).symm.trans z
      by_cases c2 : b = a ∧ K.lookup a = none
      · rw [if_pos c2] at z2
        exact .inr ⟨c2.1, c2.2, (Option.some.inj z2).symm⟩
      · rw [if_neg c2] at z2
        cases z2
  have what : ∀ b u o, H b = some u → s.heap.get? b = some o → o.data = .fields #[] ∨ o.data = .seq vs.toArray 0 := fun b u o z e => by
    rcases look b u z with ⟨t, _⟩ | ⟨rfl, _, _⟩
    · rw [tbAt t] at e
      cases e
      exact .inl rfl
    · rw [ha] at e
      cases e
      exact .inr rfl
  have free : ∀ {b : Addr} {o : Obj}, s.heap.get? b = some o → o.data ≠ .fields #[] → (∀ l n, o.data ≠ .seq l n) → H b = none := fun {b o} e n1 n2 => by
    cases z : H b with
    | none => rfl
    | some u => exact ((what b u o z e).elim n1 (n2 _ _)).elim
  have keepB : ∀ {b : Addr} {o : Obj}, s.heap.get? b = some o → o.data ≠ .fields #[] → (∀ l n, o.data ≠ .seq l n) → (hidT s.heap H).get? b = some o := fun e n1 n2 => hidT_get e (free e n1 n2)
  have nsAt : ∀ {b : Addr} {m : Str → Option Value}, s.heap.Ns b m → (hidT s.heap H).Ns b m := by
    rintro b m ⟨o, es, ep, e, d, r⟩
    exact ⟨o, es, ep, keepB e (by rw [d]; exact fun z => nomatch z) (by rw [d]; exact fun _ _ z => nomatch z), d, r⟩
  have inB : K.In (hidT s.heap H) := fun b o e => hidT_get (KX b o e) (by
    cases z : H b with
    | none => rfl
    | some u =>
      rcases look b u z with ⟨⟨p, hp, rfl⟩, _⟩ | ⟨rfl, n, _⟩
      · rw [nT p hp] at e; cases e
      · rw [n] at e; cases e)
  have modB : L2.Mod K mg (hidT s.heap H) := by
    obtain ⟨mc, q1, q2⟩ := hlim
    exact ⟨inB, nsAt hns, ⟨mb, nsAt hb, hbb⟩, mc, nsAt q1, q2⟩
  have okH : HOk P w H s.heap := fun b u z => by
    rcases look b u z with ⟨t, rfl⟩ | ⟨rfl, n, rfl⟩
    · exact tbAt t
    · exact ⟨ha, by rw [List.length_map]; exact hl, vs, _, vals_ints hi, ha⟩
  have seqA : SqL K H a (ns.map V.int) := by
    cases n : K.lookup a with
    | none => exact .inl (.inr ⟨{ cls := .type "list", data := .seq vs.toArray }, (if_neg aNot).trans (if_pos ⟨rfl, n⟩)⟩)
    | some o =>
      have e := KX a o n
      rw [ha] at e
      cases e
      exact .inr ⟨_, vs.toArray, _, n, rfl, rfl, rfl, by rw [List.size_toArray, hi.length]; exact hl, by simpa using vals_ints hi⟩
  have tabs : ∀ p ∈ cs, LamX.TabB (hidT s.heap H) mg p.1 p.2 := fun p hp => by
    have tp := hT p hp
    refine ⟨?_, ?_, fun z => ?_⟩
    · obtain ⟨o, us, file, tf, flags, tg, inF, text, tt, e1, r1, r2, r3, rest⟩ := C p hp
      refine ⟨o, us, file, tf, flags, tg, inF, text, tt, keepB e1 (fun z => ?_) (fun l n z => ?_), r1, r2, r3, rest⟩
      · rw [r2] at z; cases z; simp at r3
      · rw [r2] at z; cases z
    · obtain ⟨bm, ob, b1, b2, b3, b4, b5, b6⟩ := hbm
      refine ⟨bm, ob, b1, b2, fun q => ?_, fun q => ?_, keepB b3 (by rw [b6]; exact fun z => nomatch z) (by rw [b6]; exact fun _ _ z => nomatch z), b4, b5, b6⟩
      · obtain ⟨o, es, ep, e, hd, _⟩ := hns
        rw [q, e] at b3
        cases b3
        rw [hd] at b6
        cases b6
      · rw [q, tp] at b3
        cases b3
        cases b6
    · obtain ⟨o, es, ep, e, hd, _⟩ := hns
      rw [z, tp] at e
      cases e
      cases hd
  have env0 : Env0 P w K mg (hidT s.heap H) callerA [] s H := ⟨rfl, modB, fun b o e => of_hidT e, Nat.le_of_eq (hidT_size _ _), trivial, fun b z => (nomatch z), okH, .of_eq hg⟩
  refine codeAny_mono ((F _ inB (nsAt hns) tabs).go (us := [.ref a]) (vs := [.ref a]) rfl hr env0 (hbind s (.ref a)) (.cons rfl .nil) (hsp H (fun p hp => hTb ⟨p, hp, rfl⟩) seqA)) fun r s2 c => ?_
  rcases r with er | fl
  · exact (hCX H er s2 c).elim
  · rcases fl with _ | _ | _ | u
    all_goals first
      | exact c.elim
      | skip
    obtain ⟨v, H2, os, bare, un, ok2, rv, q⟩ := c
    subst q
    obtain rfl : u = Value.bool true := rv
    have same : ∀ b o, ¬ tb b → s.heap.get? b = some o → s2.heap.get? b = some o := fun b o nb e => by
      cases z : H b with
      | none => exact un.keep b o e z (fun z => nomatch z) (fun z => nomatch z)
      | some u =>
        rcases look b u z with ⟨t, _⟩ | ⟨rfl, n, rfl⟩
        · exact (nb t).elim
        · obtain ⟨y, _⟩ := ok2 b _ (un.frzs b _ _ z)
          rw [ha] at e
          cases e
          exact y
    have more : ∀ b, tb b → ∃ m : Array Value, s2.heap.get? b = some { cls := .none, data := .fields m } := fun b t => by
      obtain ⟨m, z⟩ := un.tbls b #[] (hTb t)
      exact ⟨_, ok2 b _ z⟩
    refine ⟨rfl, ⟨fun b o e => ?_, fun b o e => ?_⟩, os, bare⟩
    · by_cases c1 : tb b
      · obtain ⟨m, hm⟩ := more b c1
        obtain ⟨p, hp, rfl⟩ := c1
        rw [hT p hp] at e
        cases e
        exact .inr (.inl ⟨((C p hp).tab (hT p hp)).isCodeTable, rfl, #[], m, rfl, by rw [Array.empty_append]; exact hm⟩)
      · exact .inl (same b o c1 e)
    · by_cases c1 : tb b
      · obtain ⟨m, hm⟩ := more b c1
        exact ⟨_, hm⟩
      · exact ⟨o, same b o c1 e⟩
def LawAtG (l : PySem.W.OpenLaw) (w : World) (K : PySem.W.Frag) (CX : CXT) (k n : Nat) (x : Str) (mg : Str → Option Value) (fa : Addr) (h : Heap) : Prop :=
  ∃ (fd : FuncData) (cs : List (Addr × Addr)) (sp : Sp), ((∀ p ∈ cs, h.get? p.2 = some { cls := .none, data := .fields #[] }) ∧ (∀ p ∈ cs, K.lookup p.2 = none) ∧ ∀ p ∈ cs, PySem.W.CodeHd h p.1 p.2) ∧ (∀ (s : Shared) (u : Value), BindsTo s fd ⟨[u], []⟩ [(x, u)]) ∧
    (∀ (H : Hp) (a : Addr) (ns : List Int), ns.length ≤ n → (∀ z ∈ ns, Builtin.Int.intBits z ≤ 1048576) → (∀ p ∈ cs, H p.2 = some (.tbl #[])) → SqL K H a (ns.map V.int) → sp [.ref a] H (fun v _ => v = .bl true) fun _ _ _ => False) ∧
    ∀ base : Heap, K.In base → base.Ns mainGlobals mg → (∀ p ∈ cs, LamX.TabB base mg p.1 p.2) → FnG l.prog w K mg base CX k fa fd [x] sp
theorem walk_ofG {l : PySem.W.OpenLaw} {n k : Nat} {q : Program} {loose : List Str} {XP : (Str → Option Value) → Heap → Prop} {YP : World → Heap → Prop} {d : DefRec} {K : Params → PySem.W.Frag} {CX : World → CXT} {x : Str}
    (hn : l.most = some n) (hn2 : n ≤ sizeLine) (hdf : d.params.defaults = []) (hr : Room k callerA) (hY : ∀ (w : World) (h : Heap), YP w h → (K w.params).In h)
    (F : ∀ (w : World) (mg : Str → Option Value) (fa : Addr) (h : Heap), YP w h → (K w.params).In h → h.Ns mainGlobals mg → mg d.name = some (.ref fa) → LawAtG l w (K w.params) (CX w) k n x mg fa h)
    (hCX : ∀ (w : World) (H : Hp) (s : Shared) (e : Value) (s' : Shared), CX w [] H s (fun _ _ _ => False) e s' → False) :
    PySem.W.WalkO q loose XP YP l.row.toRowW d [] (fun f vs => PySem.call f vs) := by
  refine Att.attach_callB hn hdf fun w s₀ s mg mb fa o pm cd doc a vs ns G Y ho hd hcd hmg hobj hints hlen hbits hg => ?_
  obtain ⟨fd, cs, sp, ⟨hT, nT, C⟩, hb, hsp, hF⟩ := F w mg fa _ Y (hY w _ Y) G.T.g hmg
  exact law_callG (hY w _ Y) G.T.g G.T.b G.T.builtins G.T.nolimit hg hT nT C G.T.bmain hobj hints (Nat.le_trans hlen hn2) hr hF hb (fun H hH hS => hsp H a ns hlen hbits hH hS) fun H e s' => hCX w H s e s'
end Xg
set_option Elab.async false
set_option linter.all false
set_option maxRecDepth 100000
set_option maxHeartbeats 4000000
namespace Xo
open PySem PySem.Spec PyProof.Rows L2
section
variable {M : Model} {prog : Program} {w : World} {A : Around} {E : Value → Shared → Prop} {s : Shared} {K : PySem.W.Frag} {x y C f : Addr} {ox oy : Obj} {od oe : Option Obj}
theorem bound_ne {args : List Value} {Q : Option Value → Shared → Prop} (X : K.In s.heap) (I : PySem.W.InstAt s.heap x ox C od) (hs : PySem.W.findIn K (.ref C) "__ne__" = some (some (.builtin "object.__ne__")))
    (h : wpAny M A (call (.builtin "object.__ne__") (.ref x :: args)) (fun v => Q (some v)) E s) : wpAny M A (callSpecialIfBound? (.ref x) "__ne__" args) Q E s := by
  have fin : wpAny M A (call (.builtin "object.__ne__") ([.ref x] ++ args) >>= fun v => pure (some v)) Q E s := wpAny_bind (wpAny_mono h (fun _ _ z => wpAny_pure z) fun _ _ z => z)
  unfold callSpecialIfBound? bindSpecialIfBound?
  refine wpAny_holding (wpAny_bind (wpAny_bind (wpAny_bind (I.type.here ((PySem.W.looks_findIn X hs).here (wpAny_bind (wpAny_askSetting (wpAny_ite ?_))))))))
  split
  · exact wpAny_bind (wpAny_of_eq (F.cmp_object.ne.bind _) (wpAny_pure (by exact fin)))
  · exact wpAny_tryCatch (wpAny_bind (wpAny_of_eq (F.cmp_object.ne.bind _) (wpAny_pure (by exact fin))))
theorem entry_ne {Q : Fin → Shared → Prop} (hu : A.units < cLine) (X : K.In s.heap) (I : PySem.W.InstAt s.heap x ox C od) (hs : PySem.W.findIn K (.ref C) "__eq__" = some (some (.ref f))) (hf : PySem.W.isFn K (.ref f) = true)
    (hc : wpAny (model prog w) A (call (.ref f) [.ref x, .ref y]) (fun v s' => ∃ b, v = .bool b ∧ Q (.done (.ret (.bool (!b)))) s') E s) : wpAny (model prog w) A (Builtin.«object.__ne__» ⟨[.ref x, .ref y], []⟩) Q E s := by
  unfold Builtin.«object.__ne__»
  repeat (first
    | with_reducible refine wpAny_cRoomFor hu ?_
    | (refine wpAny_bind (m := callSpecialIfBound? (.ref x) (Str.ofString "__eq__") [.ref y]) (PySem.W.ifBound_K X I hs hf (wpAny_mono hc (fun r s' z => by
        obtain ⟨b, rfl, hq⟩ := z
        repeat (first | exact hq | exact wpAny_pure hq | exact wpAny_truthy_bool hq | (refine wpAny_bind (m := truthy (.bool _)) (wpAny_truthy_bool ?_)) | wp_step)) fun _ _ e => e)))
    | wp_step)
theorem rc_ne {Q : Value → Shared → Prop} (hu : A.units + 1 < cLine) (X : K.In s.heap) (I : PySem.W.InstAt s.heap x ox C od) (J : PySem.W.InstAt s.heap y oy C oe) (hm : PySem.W.mroIn K C (.type "object") = some true) (hn : PySem.W.findIn K (.ref C) "__ne__" = some (some (.builtin "object.__ne__")))
    (hs : PySem.W.findIn K (.ref C) "__eq__" = some (some (.ref f))) (hf : PySem.W.isFn K (.ref f) = true) (hc : wpAny (model prog w) A.in1 (call (.ref f) [.ref x, .ref y]) (fun v s' => ∃ b, v = .bool b ∧ Q (.bool (!b)) s') E s) :
    wpAny (model prog w) A (richCompare .NotEq (.ref x) (.ref y)) Q E s := by
  have one : wpAny (model prog w) A (tryCompare (.ref x) "__ne__" (.ref y)) (fun r s' => ∃ b, r = some (.bool (!b)) ∧ Q (.bool (!b)) s') E s := by
    unfold tryCompare
    refine wpAny_bind (bound_ne X I hn (wpAny_call (codeAny_call_builtin F.cmp_object.ne.plain F.cmpEntry_ne (PySem.W.check_slot F.cmpKind_ne F.cmpSplit_ne (I.type.andThen (PySem.W.looks_mroIn X hm)) (F.cmpArgs_ne _ _) (entry_ne (A := A.in1) hu X I hs hf (wpAny_mono hc (fun v s' z => ?_) fun _ _ e => e))))))
    obtain ⟨b, rfl, hq⟩ := z
    first | exact ⟨b, rfl, wpAny_pure ⟨b, rfl, hq⟩⟩ | exact ⟨b, rfl, wpAny_pure (wpAny_pure ⟨b, rfl, hq⟩)⟩
  have same : (Value.ref C != Value.ref C) = false := by simp
  simp only [richCompare, cmpInfo_NotEq, oneThing_ref]
  refine wpAny_holding (wpAny_bind (wpAny_cRoomFor (Nat.lt_of_succ_lt hu) (wpAny_bind (I.type.here (wpAny_bind (J.type.here ?_))))))
  rw [same]
  refine wpAny_bind (wpAny_pure ?_)
  simp only [Bool.false_eq_true, if_false]
  refine wpAny_bind (wpAny_mono one (fun r s1 z => ?_) fun _ _ e => e)
  obtain ⟨b, rfl, hq⟩ := z
  exact wpAny_pure hq
end
/-- x == y, x != y by the own __eq__'s promise -/
def rOwn (C : Addr) (sp : Sp) (E : XK) (g : Bool → Bool) : R2 := fun x y H Q => ∃ (a b dx dy : Addr) (fs gs : List (Str × V)), x = .ref a ∧ y = .ref b ∧ H a = some (.ins C dx fs) ∧ H b = some (.ins C dy gs) ∧ sp [.ref a, .ref b] H (fun v H' => ∃ k, v = .bl k ∧ Q (.bl (g k)) H') E
section
variable {X : Cx} {CX : CXT} {n : Nat} {C f : Addr} {fd : FuncData} {ps : List Str} {sp : Sp} {E : XK}
theorem run_own {A : Around} {pins : List (Addr × Obj)} {σ : L2.St} {H : Hp} {s : Shared} {a b : Addr} {R : Bool → Hp → Prop} (F : FnOk X.prog X.w X.K X.mg X.base CX n f fd ps sp) (hb : Binds X.K fd ps []) (hx : Passes CX X E) (hr : Room n A) (hf : A.frames = X.A.frames) (I : Inv X pins σ H s)
    (h : sp [.ref a, .ref b] H (fun v H' => ∃ k, v = .bl k ∧ R k H') E) : wpAny (model X.prog X.w) A (call (.ref f) [.ref a, .ref b]) (fun u s' => ∃ k H', u = .bool k ∧ Inv X pins σ H' s' ∧ R k H') X.xe s := by
  have e0 := I.env0
  have e1 : Env0 X.prog X.w X.K X.mg X.base A X.stack s H := ⟨by rw [hf]; exact e0.frames, e0.mod, e0.bs, e0.bsz, e0.funs, e0.frf, e0.hok, e0.bare⟩
  have bt := hb s [.ref a, .ref b] I.kIn (F.len _ _ _ _ h)
  rw [List.append_nil] at bt
  refine wpAny_call (codeAny_mono (F.run A X.stack s H ⟨[.ref a, .ref b], []⟩ [.ref a, .ref b] [.ref a, .ref b] _ E hr e1 bt (.cons rfl (.cons rfl .nil)) h) fun r s' c => ?_)
  rcases r with er | fl
  · exact hx pins σ H s er s' I c
  · rcases fl with _ | _ | _ | u
    all_goals first
      | exact c.elim
      | skip
    obtain ⟨v, H', J, rv, k, rfl, q⟩ := I.after c
    exact ⟨k, H', rv, J, q⟩
theorem op_eqO (F : FnOk X.prog X.w X.K X.mg X.base CX n f fd ps sp) (hs : PySem.W.findIn X.K (.ref C) "__eq__" = some (some (.ref f))) (hf : PySem.W.isFn X.K (.ref f) = true) (hb : Binds X.K fd ps []) (hx : Passes CX X E) (hr : Room n X.A) : OpR X (compareOp .Eq) (rOwn C sp E id) := by
  intro pins s σ H x y v u Q I rx ry h
  obtain ⟨a, b, dx, dy, fs, gs, rfl, rfl, ha, hb', q⟩ := h
  obtain rfl : v = Value.ref a := rx
  obtain rfl : u = Value.ref b := ry
  obtain ⟨_, O, _⟩ := ins_get I.hok ha
  obtain ⟨_, O', _⟩ := ins_get I.hok hb'
  obtain ⟨od, J, _⟩ := O.look
  obtain ⟨od', J', _⟩ := O'.look
  obtain ⟨m, hF⟩ := I.fr
  show wpAny (model X.prog X.w) X.A (richCompare .Eq (.ref a) (.ref b)) (EP X pins σ Q) X.xe s
  refine PySem.W.cmp_K (op := .Eq) (tb := .ref C) hr.units0 hF I.ok.mod.kin J J'.type (by simp [PySem.W.notFirst]) hs hf (wpAny_mono (run_own (R := fun k H' => Q (.bl k) H') F hb hx hr rfl I q) (fun r s' z => ?_) fun _ _ e => e)
  obtain ⟨k, H', rfl, J2, q2⟩ := z
  exact ⟨.bl k, H', J2, rfl, q2⟩
theorem op_neO (F : FnOk X.prog X.w X.K X.mg X.base CX n f fd ps sp) (hs : PySem.W.findIn X.K (.ref C) "__eq__" = some (some (.ref f))) (hf : PySem.W.isFn X.K (.ref f) = true) (hm : PySem.W.mroIn X.K C (.type "object") = some true) (hn : PySem.W.findIn X.K (.ref C) "__ne__" = some (some (.builtin "object.__ne__"))) (hb : Binds X.K fd ps []) (hx : Passes CX X E) (hr : Room (n + 1) X.A) : OpR X (compareOp .NotEq) (rOwn C sp E fun k => !k) := by
  intro pins s σ H x y v u Q I rx ry h
  obtain ⟨a, b, dx, dy, fs, gs, rfl, rfl, ha, hb', q⟩ := h
  obtain rfl : v = Value.ref a := rx
  obtain rfl : u = Value.ref b := ry
  obtain ⟨_, O, _⟩ := ins_get I.hok ha
  obtain ⟨_, O', _⟩ := ins_get I.hok hb'
  obtain ⟨od, J, _⟩ := O.look
  obtain ⟨od', J', _⟩ := O'.look
  show wpAny (model X.prog X.w) X.A (richCompare .NotEq (.ref a) (.ref b)) (EP X pins σ Q) X.xe s
  have hu := hr.units
  refine rc_ne (by omega) I.kIn J J' hm hn hs hf (wpAny_mono (run_own (R := fun k H' => Q (.bl (!k)) H') F hb hx hr.in1 rfl I q) (fun r s' z => ?_) fun _ _ e => e)
  obtain ⟨k, H', rfl, J2, q2⟩ := z
  exact ⟨k, rfl, .bl (!k), H', J2, rfl, q2⟩
end
end Xo
set_option Elab.async false
set_option linter.all false
set_option maxRecDepth 100000
set_option maxHeartbeats 4000000
namespace Xr
open PySem PySem.Spec PyProof.Rows L2 Evl
/-- what a growing dict, a growing table leave as it is -/
def Stay (u : HO) : Prop := (∀ k, u ≠ .dT k) ∧ (∀ ps, u ≠ .tbl ps) ∧ ∀ o k, u ≠ .frz o (.dT k)
def LT (H H' : Hp) : Prop := ∀ b u, H b = some u → Stay u → H' b = some u
theorem LT.refl (H : Hp) : LT H H := fun _ _ h _ => h
theorem LT.trans {H H1 H2 : Hp} (a : LT H H1) (b : LT H1 H2) : LT H H2 := fun c u h s => b c u (a c u h s) s
theorem LT.of {H H' : Hp} (e : Ex H H') : LT H H' := fun b u h _ => e b u h
theorem LT.ofN {H H' : Hp} (e : LamX.ExtN H H') : LT H H' := fun b u h s => e b u h s.2.1
theorem LT.put {H : Hp} {p : Addr} {u o : HO} (h : H p = some u) (n : ¬ Stay u) : LT H (L2.upd H p o) := fun b v hb s => by
  have ne : b ≠ p := fun z => by rw [z, h] at hb; cases hb; exact n s
  rw [upd_ne ne]
  exact hb
theorem stay_lst {xs : List V} : Stay (.lst xs) := ⟨fun _ z => (by cases z), fun _ z => (by cases z), fun _ _ z => by cases z⟩
theorem stay_tup {xs : List V} : Stay (.tup xs) := ⟨fun _ z => (by cases z), fun _ z => (by cases z), fun _ _ z => by cases z⟩
theorem stay_ins {C dx : Addr} {fs : List (Str × V)} : Stay (.ins C dx fs) := ⟨fun _ z => (by cases z), fun _ z => (by cases z), fun _ _ z => by cases z⟩
theorem stay_dK {kvs : List (Key × V)} : Stay (.dK kvs) := ⟨fun _ z => (by cases z), fun _ z => (by cases z), fun _ _ z => by cases z⟩
theorem no_dT {k : List (List Key × V)} : ¬ Stay (.dT k) := fun s => s.1 k rfl
theorem no_frz {o : Obj} {k : List (List Key × V)} : ¬ Stay (.frz o (.dT k)) := fun s => s.2.2 o k rfl
theorem rd_lt {H H' : Hp} {a : Addr} {u : HO} (e : LT H H') (s : Stay u) (s2 : ∀ o, Stay (.frz o u)) (h : Rd H a u) : Rd H' a u := h.imp (fun z => e _ _ z s) fun ⟨o, z⟩ => ⟨o, e _ _ z (s2 o)⟩
theorem l_lt {K : PySem.W.Frag} {H H' : Hp} {a : Addr} {xs : List V} (e : LT H H') (h : SqL K H a xs) : SqL K H' a xs := h.imp (rd_lt e stay_lst fun _ => ⟨fun _ z => (by cases z), fun _ z => (by cases z), fun _ _ z => by cases z⟩) id
theorem t_lt {K : PySem.W.Frag} {H H' : Hp} {a : Addr} {xs : List V} (e : LT H H') (h : SqT K H a xs) : SqT K H' a xs := h.imp (rd_lt e stay_tup fun _ => ⟨fun _ z => (by cases z), fun _ z => (by cases z), fun _ _ z => by cases z⟩) id
mutual
theorem dp_lt {K : PySem.W.Frag} {H H' : Hp} (e : LT H H') : ∀ (d : PyData) (v : V), Dp K H v d → Dp K H' v d
  | .none, _, h => by cases h; exact .non
  | .bool _, _, h => by cases h; exact .bl _
  | .int _, _, h => by cases h; exact .int _
  | .str _, _, h => by cases h; exact .str _
  | .list ds, _, h => by
    cases h with
    | lst hs ha => exact .lst (l_lt e hs) (dps_lt e ds _ ha)
  | .tuple ds, _, h => by
    cases h with
    | tup hs ha => exact .tup (t_lt e hs) (dps_lt e ds _ ha)
  | .dict _, _, h => by cases h
theorem dps_lt {K : PySem.W.Frag} {H H' : Hp} (e : LT H H') : ∀ (ds : List PyData) (vs : List V), DpAll K H vs ds → DpAll K H' vs ds
  | [], _, h => by cases h; exact .nil
  | d :: ds, _, h => by
    cases h with
    | cons h1 h2 => exact .cons (dp_lt e d _ h1) (dps_lt e ds _ h2)
end
theorem dps_len {K : PySem.W.Frag} {H : Hp} : ∀ {ds : List PyData} {vs : List V}, DpAll K H vs ds → vs.length = ds.length
  | [], _, h => by cases h; rfl
  | d :: ds, _, h => by
    cases h with
    | cons h1 h2 => rw [List.length_cons, List.length_cons, dps_len h2]
section
variable {K : PySem.W.Frag} {σ : L2.St} {H : Hp} {te ta tb : TE} {d : PyData}
def EvD (K : PySem.W.Frag) (te : TE) (σ : L2.St) (H : Hp) (d : PyData) : Prop := ∀ H1, Ex H H1 → ∀ Q : VK, (∀ v H2, Ex H1 H2 → Dp K H2 v d → Q v H2) → te σ H1 Q
def EvDs (K : PySem.W.Frag) (ta : TA) (σ : L2.St) (H : Hp) (ds : List PyData) : Prop := ∀ H1, Ex H H1 → ∀ Q : List V → Hp → Prop, (∀ vs H2, Ex H1 H2 → DpAll K H2 vs ds → Q vs H2) → ta σ H1 Q
theorem evd_of {v : V} (h : Ev te σ H v) (hd : Dp K H v d) : EvD K te σ H d := fun H1 e Q q => h H1 e _ fun H2 e2 => q v H2 e2 (dp_lt (LT.of (e.trans e2)) d v hd)
theorem evd_non : EvD K (tC .non) σ H .none := evd_of ev_c .non
theorem evd_int {i : Int} : EvD K (tC (.int i)) σ H (.int i) := evd_of ev_c (.int i)
theorem evd_str {z x : Str} (h : z = x) : EvD K (tC (.str z)) σ H (.str x) := h ▸ evd_of ev_c (.str z)
theorem evd_var {i : Nat} {v : V} (h : σ[i]? = some (some v)) (hd : Dp K H v d) : EvD K (tVar i) σ H d := evd_of (ev_var h) hd
theorem evds_nil : EvDs K tNil σ H [] := fun H1 _ Q q => q [] H1 (Ex.refl H1) .nil
theorem evds_cons {tr : TA} {ds : List PyData} (h : EvD K te σ H d) (r : EvDs K tr σ H ds) : EvDs K (tCons te tr) σ H (d :: ds) := fun H1 e Q q =>
  h H1 e _ fun v H2 e2 hv => r H2 (e.trans e2) _ fun vs H3 e3 hvs => q (v :: vs) H3 (e2.trans e3) (.cons (dp_lt (LT.of e3) d v hv) hvs)
theorem evd_tup {ta : TA} {ds : List PyData} (h : EvDs K ta σ H ds) (hl : ds.length ≤ 1000) : EvD K (tTup ta) σ H (.tuple ds) := fun H1 e Q q =>
  h H1 e _ fun vs H2 e2 hvs => ⟨by rw [dps_len hvs, sizeLine_eq]; omega, fun p hp => q (.ref p) _ (e2.trans (Ex.new hp)) (.tup (st_of upd_same) (dps_lt (LT.of (Ex.new hp)) ds vs hvs))⟩
theorem evd_lst {ta : TA} {ds : List PyData} (h : EvDs K ta σ H ds) (hl : ds.length ≤ 1000) : EvD K (tLst ta) σ H (.list ds) := fun H1 e Q q =>
  h H1 e _ fun vs H2 e2 hvs => ⟨by rw [dps_len hvs, sizeLine_eq]; omega, fun p hp => q (.ref p) _ (e2.trans (Ex.new hp)) (.lst (sq_of upd_same) (dps_lt (LT.of (Ex.new hp)) ds vs hvs))⟩
def showOk (d : PyData) : Bool := d.showable && !d.hasDict && decide (d.depth ≤ 50) && decide (d.shown.length ≤ 100000)
theorem ev_repr (h : EvD K te σ H d) (ok : showOk d = true) : Ev (tCB (Xt.rRepr K) (tCons te tNil)) σ H (.str d.shown) := fun H1 e Q q => by
  unfold showOk at ok
  simp only [Bool.and_eq_true, decide_eq_true_eq, Bool.not_eq_true'] at ok
  exact h H1 e _ fun v H2 e2 hv => ⟨v, d, rfl, hv, ok.1.1.1, ok.1.1.2, ok.1.2, by rw [sizeLine_eq]; omega, q H2 e2⟩
/-- repr(a) != repr(b) of like data -/
theorem et_same (h1 : EvD K ta σ H d) (h2 : EvD K tb σ H d) (ok : showOk d = true) : EvT (tTest (tOp rNe (tCB (Xt.rRepr K) (tCons ta tNil)) (tCB (Xt.rRepr K) (tCons tb tNil)))) σ H false :=
  et_is (et_test (ev_op (ev_repr h1 ok) (ev_repr h2 ok) (rv_ne rfl))) (by simp)
theorem ev_same (h1 : EvD K ta σ H d) (h2 : EvD K tb σ H d) (ok : showOk d = true) : Ev (tOp rEq (tCB (Xt.rRepr K) (tCons ta tNil)) (tCB (Xt.rRepr K) (tCons tb tNil))) σ H (.bl true) :=
  ev_is (ev_op (ev_repr h1 ok) (ev_repr h2 ok) (rv_eq rfl)) (by simp)
abbrev DEnt := List Key × PyData
abbrev DAt (K : PySem.W.Frag) (H : Hp) : List (List Key × V) → List DEnt → Prop := Paired fun kv e => kv.1 = e.1 ∧ Dp K H kv.2 e.2
abbrev PAt (K : PySem.W.Frag) (H : Hp) : List (V × V) → List DEnt → Prop := Paired fun x e => (∃ b : Addr, x.1 = .ref b ∧ H b = some (.tup (e.1.map kV))) ∧ Dp K H x.2 e.2
theorem dat_lt {H' : Hp} (e : LT H H') {kvs : List (List Key × V)} {es : List DEnt} (h : DAt K H kvs es) : DAt K H' kvs es := Paired.mapP h fun _ _ z => ⟨z.1, dp_lt e _ _ z.2⟩
theorem pat_lt {H' : Hp} (e : LT H H') {ps : List (V × V)} {es : List DEnt} (h : PAt K H ps es) : PAt K H' ps es := Paired.mapP h fun _ _ z => ⟨let ⟨b, h1, h2⟩ := z.1; ⟨b, h1, e _ _ h2 stay_tup⟩, dp_lt e _ _ z.2⟩
def EvK (tk : TE) (σ : L2.St) (H : Hp) (k : List Key) : Prop := EvU tk σ H (k.map kV)
theorem evk_pair {z x : Str} {i : Int} (h : z = x) : EvK (tTup (tCons (tC (.str z)) (tCons (tC (.int i)) tNil))) σ H [.inr x, .inl i] := by
  subst h
  exact eu_tup (ea_cons ev_c (ea_cons ev_c ea_nil)) (by show 2 ≤ 100000; decide)
def EvPs (K : PySem.W.Frag) (trs : List (TE × TE)) (σ : L2.St) (H : Hp) (es : List DEnt) : Prop := ∀ H1, Ex H H1 → ∀ Q : List (V × V) → Hp → Prop, (∀ ps H2, Ex H1 H2 → PAt K H2 ps es → Q ps H2) → tPairs trs σ H1 Q
theorem evps_nil : EvPs K [] σ H [] := fun H1 _ Q q => q [] H1 (Ex.refl H1) .nil
theorem evps_cons {tk tv : TE} {trs : List (TE × TE)} {k : List Key} {es : List DEnt} (hk : EvK tk σ H k) (hv : EvD K tv σ H d) (r : EvPs K trs σ H es) : EvPs K ((tk, tv) :: trs) σ H ((k, d) :: es) := fun H1 e Q q =>
  hk H1 e _ fun b H2 _ e2 hb => hv H2 (e.trans e2) _ fun v H3 e3 hv3 => r H3 ((e.trans e2).trans e3) _ fun ps H4 e4 hps => q _ H4 ((e2.trans e3).trans e4) (.cons ⟨⟨b, rfl, e4 _ _ (e3 _ _ hb)⟩, dp_lt (LT.of e4) d v hv3⟩ hps)
theorem pat_split : ∀ {ps : List (V × V)} {es : List DEnt}, PAt K H ps es → ∃ kvs, Xt.TKeys H ps kvs ∧ DAt K H kvs es := by
  intro ps es h
  unfold PAt at h
  induction h with
  | nil => exact ⟨[], .nil, .nil⟩
  | @cons p e ps es h t ih =>
    obtain ⟨kvs, h1, h2⟩ := ih
    obtain ⟨⟨b, e1, e2⟩, e3⟩ := h
    exact ⟨(e.1, p.2) :: kvs, .cons ⟨⟨b, e1, e2⟩, rfl⟩ h1, .cons ⟨rfl, e3⟩ h2⟩
theorem dat_keys {kvs : List (List Key × V)} {es : List DEnt} (h : DAt K H kvs es) : kvs.map (·.1) = es.map (·.1) := by
  unfold DAt at h
  induction h with
  | nil => rfl
  | cons h t ih => rw [List.map_cons, List.map_cons, h.1, ih]
theorem dat_app {kvs kws : List (List Key × V)} {es fs : List DEnt} (h : DAt K H kvs es) (h2 : DAt K H kws fs) : DAt K H (kvs ++ kws) (es ++ fs) := by
  unfold DAt at h
  induction h with
  | nil => exact h2
  | cons h t ih => exact .cons h ih
theorem merge_new : ∀ {more kvs : List (List Key × V)}, ((kvs ++ more).map (·.1)).Nodup → Xt.mergeT kvs more = kvs ++ more := by
  intro more
  induction more with
  | nil => intro kvs _; rw [List.append_nil]; rfl
  | cons p r ih =>
    intro kvs hn
    have e : putK kvs p.1 p.2 = kvs ++ [p] := by
      unfold putK
      rw [if_neg]
      intro z
      obtain ⟨kv, hm, ek⟩ := List.any_eq_true.mp z
      have ek := of_decide_eq_true ek
      rw [List.map_append, List.nodup_append] at hn
      exact hn.2.2 kv.1 (List.mem_map.mpr ⟨kv, hm, rfl⟩) p.1 (by simp) ek
    have z : Xt.mergeT kvs (p :: r) = Xt.mergeT (putK kvs p.1 p.2) r := rfl
    rw [z, e, ih (by rw [List.append_assoc]; exact hn), List.append_assoc]
    rfl
/-- x = {k: v, ..} -/
theorem ev_disp {trs : List (TE × TE)} {es : List DEnt} {Q : VK} (h : EvPs K trs σ H es) (hn : (es.map (·.1)).Nodup) (hl : es.length ≤ 15) (k : ∀ D H1 kvs, H D = none → Ex H H1 → H1 D = some (.dT kvs) → DAt K H1 kvs es → Q (.ref D) H1) : Xt.tDispT trs σ H Q := fun D hD =>
  h _ (Ex.new hD) _ fun ps H2 e2 hps => by
    obtain ⟨kvs, h1, h2⟩ := pat_split hps
    have hD2 := e2 _ _ (show (L2.upd H D (.dT [])) D = some (.dT []) from upd_same)
    have hk := dat_keys h2
    have hm : Xt.mergeT [] kvs = kvs := merge_new (kvs := []) (by rw [List.nil_append, hk]; exact hn)
    have hlen : kvs.length = es.length := by have := congrArg List.length hk; simpa using this
    refine ⟨hD2, kvs, h1, by omega, ?_⟩
    rw [hm]
    exact k D _ kvs hD ((Ex.new hD).trans e2 |>.mut hD) upd_same (dat_lt (LT.put hD2 no_dT) h2)
/-- x.update({k: v, ..}) -/
theorem q_upd {trs : List (TE × TE)} {es more : List DEnt} {D : Addr} {i : Nat} {kvs : List (List Key × V)} {En : Ends} {tz : TS} {H0 : Hp} (hs : σ[i]? = some (some (.ref D))) (h0 : H0 D = none) (e0 : Ex H0 H) (hD : H D = some (.dT kvs)) (hd : DAt K H kvs es) (h : EvPs K trs σ H more) (hn : ((es ++ more).map (·.1)).Nodup) (hne : es ≠ []) (hl : es.length ≤ 1000) (hl2 : more.length ≤ 15)
    (k : ∀ H1 kvs', Ex H0 H1 → H1 D = some (.dT kvs') → DAt K H1 kvs' (es ++ more) → tz En σ H1) : tSeq (tDrop (tBM K "dict" Xt.rUpd (tVar i) (tCons (Xt.tDispT trs) tNil))) tz En σ H := by
  have hk := dat_keys hd
  have hlen : kvs.length = es.length := by have := congrArg List.length hk; simpa using this
  refine ⟨_, hs, .inr (.inr (.inl ⟨rfl, .inr ⟨kvs, hD⟩⟩)), ev_disp h (by rw [List.map_append, List.nodup_append] at hn; exact hn.2.1) hl2 fun o H1 kws ho e1 ho1 hd1 => ?_⟩
  have hk2 := dat_keys hd1
  have hlen2 : kws.length = more.length := by have := congrArg List.length hk2; simpa using this
  have hD1 := e1 _ _ hD
  have hne' : D ≠ o := fun z => by rw [z, ho] at hD; cases hD
  refine ⟨D, o, kvs, kws, rfl, rfl, hne', hD1, ho1, fun z => ?_, by rw [sizeLine_eq]; omega, ?_⟩
  · rw [z] at hlen
    exact hne (List.length_eq_zero_iff.mp hlen.symm)
  · rw [merge_new (by rw [List.map_append, hk, hk2, ← List.map_append]; exact hn)]
    exact k _ (kvs ++ kws) ((e0.trans e1).mut h0) upd_same (dat_lt (LT.put hD1 no_dT) (dat_app (dat_lt (LT.of e1) hd) hd1))
end
end Xr
set_option Elab.async false
set_option linter.all false
set_option maxRecDepth 100000
set_option maxHeartbeats 4000000
namespace K5
open PySem PySem.Spec PyProof.Rows L2 Evl Xl SX Mi
structure Txt3 (K : PySem.W.Frag) (w : World) (mg : Str → Option Value) : Prop extends Txt2 K w mg where
  sum_ : mg "sum" = none
  abs_ : mg "abs" = none
  repr_ : mg "repr" = none
theorem op_powB {X : Cx} : OpR X (binaryOp .Pow) (rI (fun i j => 0 ≤ j ∧ (PySem.Builtin.Int.intBits i : Int) * j ≤ 2 ^ 27) fun i j => .int (i ^ j.toNat)) :=
  opI fun _ _ _ _ _ _ _ hc q => PyProof.Rows.pow_int hc.1 hc.2 q
theorem ev_int1 {te : TE} {σ : L2.St} {H : Hp} {i : Int} (h : Ev te σ H (.int i)) : Ev (tCB (fun xs H Q => (∃ i, xs = [V.int i] ∧ Q (V.int i) H) ∨ ∃ k, xs = [V.bl k] ∧ Q (V.int (if k = true then 1 else 0)) H) (tCons te tNil)) σ H (.int i) :=
  ev_cb (ea_cons h ea_nil) fun H1 e1 Q q => .inl ⟨i, rfl, q H1 (Ex.refl H1)⟩
theorem ev_intB {te : TE} {σ : L2.St} {H : Hp} {b : Bool} (h : Ev te σ H (.bl b)) : Ev (tCB (fun xs H Q => (∃ i, xs = [V.int i] ∧ Q (V.int i) H) ∨ ∃ k, xs = [V.bl k] ∧ Q (V.int (if k = true then 1 else 0)) H) (tCons te tNil)) σ H (.int (if b = true then 1 else 0)) :=
  ev_cb (ea_cons h ea_nil) fun H1 e1 Q q => .inr ⟨b, rfl, q H1 (Ex.refl H1)⟩
theorem ev_abs {te : TE} {σ : L2.St} {H : Hp} {i : Int} (h : Ev te σ H (.int i)) : Ev (tCB (fun xs H Q => ∃ i, xs = [V.int i] ∧ Q (V.int (if i < 0 then -i else i)) H) (tCons te tNil)) σ H (.int (if i < 0 then -i else i)) :=
  ev_cb (ea_cons h ea_nil) fun H1 e1 Q q => ⟨i, rfl, q H1 (Ex.refl H1)⟩
theorem nat_lt {i m : Int} {n : Nat} (h0 : 0 ≤ i) (h1 : i < m) (h2 : m ≤ ((2 ^ n : Nat) : Int)) : i.natAbs < 2 ^ n := by
  have h := Int.natAbs_of_nonneg h0
  have : (i.natAbs : Int) < ((2 ^ n : Nat) : Int) := by rw [h]; exact Int.lt_of_lt_of_le h1 h2
  exact Int.ofNat_lt.mp this
theorem bit01 (b : Bool) : 0 ≤ (if b = true then (1 : Int) else 0) ∧ (if b = true then (1 : Int) else 0).natAbs < 2 ^ 2 := by cases b <;> decide
section
variable {P : Program} {w : World} {K : PySem.W.Frag} {mg : Str → Option Value} {base : Heap} {f : Addr} {fd : FuncData}
def spPot (K : PySem.W.Frag) : Sp := fun vs H Q _ => ∃ (a : Addr) (ns : List Int), vs = [.ref a, .int 0] ∧ SqL K H a (ns.map V.int) ∧ ns.length ≤ 63 ∧ ∀ (p : Addr) (o m : Int) (H' : Hp), H p = none → Ex H H' → H' p = some (.lst [.int o, .int m, .int 0]) → 0 ≤ o → 0 ≤ m → m < 2305843009213693921 → Q (.ref p) H'
abbrev nPot : List Str := ["script", "place", "cell", "own", "small"]
theorem scPot : FnScope nPot ["script", "place"] (C8.fnScope (top 41)) := C8.fnScope_by (by decide +kernel)
theorem ok_pot (F : C8.Def K mg "_law_pot" (top 41) f fd) (b : Binds K fd ["script", "place"] []) (T : Txt3 K w mg) : C8.Cal P w K mg base 1 "_law_pot" (spPot K) [] := by
  refine C8.cal0 F b .nil scPot (fun vs H Q E h => by obtain ⟨a, ns, rfl, _⟩ := h; rfl) (fun cdv A outer s H vs Q E hr h => ?_)
  obtain ⟨a, ns, rfl, ha, hn, k⟩ := h
  refine ⟨_, pss_cons (ps_set (i := 2) scPot.nd rfl (Or.inl rfl) (pe_ifExp (pt_cmpR op_lt (pv 1) (pe_callB call_len_seq (by rfl) T.len_ boot_len (pa_cons (pv 0) pa_nil)) (nomark _)) (pe_ix ix_list (pv 0) (pv 1) (fun _ _ => rfl))
      (pe_op op_add (pe_op op_add (pe_op op_mod (pe_callTy call_int1 (by rfl) T.int_ (by decide +kernel) (pa_cons (pe_callB (cr_sum rfl) (by rfl) T.sum_ (by decide +kernel) (pa_cons (pe_slice sl_list (pv 0) po_none (po_some pe_int)) pa_nil)) pa_nil)) pe_int) (pe_op op_mulW pe_int (pv 1))) pe_int)))
    (pss_cons (ps_set (i := 3) scPot.nd rfl (Or.inl rfl) (pe_op op_mulW (pe_op op_mod (pe_callTy call_int1 (by rfl) T.int_ (by decide +kernel) (pa_cons (pe_callB call_abs (by rfl) T.abs_ (by decide +kernel) (pa_cons (pv 2) pa_nil)) pa_nil)) (pe_op op_powB (pe_op op_powB pe_int pe_int) pe_int))
      (pe_callTy call_int1 (by rfl) T.int_ (by decide +kernel) (pa_cons (pe_cmpR op_ge (pe_callB call_abs (by rfl) T.abs_ (by decide +kernel) (pa_cons (pv 2) pa_nil)) (pe_op op_powB pe_int pe_int) (nomark _)) pa_nil))))
    (pss_cons (ps_set (i := 4) scPot.nd rfl (Or.inl rfl) (pe_op op_mod (pe_callTy call_int1 (by rfl) T.int_ (by decide +kernel) (pa_cons (pv 2) pa_nil)) pe_int))
    (pss_one (ps_ret (pe_lst (pa_cons (pv 3) (pa_cons (pe_op op_mod (pe_callTy call_int1 (by rfl) T.int_ (by decide +kernel) (pa_cons (pe_op op_add (pe_op op_add (pe_op op_mulW (pv 4) pe_int) (pe_op op_mulW (pe_op op_mulW pe_int (pv 1)) (pv 1))) pe_int) pa_nil)) pe_int) (pa_cons pe_int pa_nil)))))))), ?_⟩
  have hcell : ∃ cell : Int, Ev (tIf (tTest (tOp (rI0 fun i j => V.bl (decide (i < j))) (tVar 1) (tCB (rLenS K) (tCons (tVar 0) tNil)))) (tOp (rIxL K) (tVar 0) (tVar 1))
      (tOp (rI0 fun i j => V.int (i + j)) (tOp (rI0 fun i j => V.int (i + j)) (tOp (rI (fun _ j => 0 < j) fun i j => V.int (i % j)) (tCB (fun xs H Q => (∃ i, xs = [V.int i] ∧ Q (V.int i) H) ∨ ∃ k, xs = [V.bl k] ∧ Q (V.int (if k = true then 1 else 0)) H) (tCons (tCB (rSum K) (tCons (tSl (rSlL K) (tVar 0) tNoPart (tPart (tC (V.int 1)))) tNil)) tNil)) (tC (.int 1000003))) (tOp (rI CMulW fun i j => V.int (i * j)) (tC (.int 1397)) (tVar 1))) (tC (.int 995))))
      (start nPot [V.ref a, .int 0]) H (.int cell) := by
    cases ns with
    | nil =>
      refine ⟨0 % 1000003 + 1397 * 0 + 995, ev_if (b := false) (et_is (et_test (ev_op (ev_var rfl) (ev_len (ev_var rfl) ha) rv_I0)) (by simp)) (fun z => by cases z) fun _ => ?_⟩
      refine ev_op (ev_op (ev_op (ev_int1 (i := 0) ?_) ev_c (rv_I (by decide))) (ev_op ev_c (ev_var rfl) (rv_I (wide_mul (a := 20) (b := 20) (by decide) (by decide) (by decide) (by decide) (by decide)))) rv_I0) ev_c rv_I0
      exact fun H1 e Q q => (el_sl (K := K) (lo := none) (hi := some 1) (ev_var rfl) eo_none (eo_some ev_c) ha) H1 e _ fun p H2 hp e2 hx => ⟨p, [], rfl, sq_of hx, q H2 e2⟩
    | cons c r =>
      exact ⟨c, ev_if (b := true) (et_is (et_test (ev_op (ev_var rfl) (ev_len (ev_var rfl) ha) rv_I0)) (by simp)) (fun _ => ev_op (ev_var rfl) (ev_var rfl) (rv_ixL ha (atI_nat (j := 0) rfl))) fun z => by cases z⟩
  obtain ⟨cell, hc⟩ := hcell
  refine q_asg hc fun H1 e1 => ?_
  refine q_asg (v := .int (((if cell < 0 then -cell else cell) % ((10 ^ (60 : Int).toNat) ^ (5 : Int).toNat)) * (if decide ((10 : Int) ^ (18 : Int).toNat ≤ (if cell < 0 then -cell else cell)) = true then 1 else 0))) ?_ fun H2 e2 => ?_
  · refine ev_op (ev_op (ev_int1 (ev_abs (ev_var rfl))) (ev_op (ev_op ev_c ev_c (rv_I (by decide +kernel))) ev_c (rv_I (by decide +kernel))) (rv_I (by decide +kernel))) (ev_intB (ev_op (ev_abs (ev_var rfl)) (ev_op ev_c ev_c (rv_I (by decide +kernel))) rv_I0)) (rv_I (wide_mul (a := 1000) (b := 2) ?_ ?_ (by decide) (by decide) (by decide)))
    · exact nat_lt (Int.emod_nonneg _ (by decide +kernel)) (Int.emod_lt_of_pos _ (by decide +kernel)) (by decide +kernel)
    · exact (bit01 _).2
  · refine q_asg (v := .int (cell % 2305843009213693951)) (ev_op (ev_int1 (ev_var rfl)) ev_c (rv_I (by decide))) fun H3 e3 => ?_
    have s0 : 0 ≤ cell % 2305843009213693951 := Int.emod_nonneg _ (by decide)
    have s1 : cell % 2305843009213693951 < 2305843009213693951 := Int.emod_lt_of_pos _ (by decide)
    refine (el_lst (ea_cons (ev_var rfl) (ea_cons (ev_op (ev_int1 (ev_op (ev_op (ev_op (ev_var rfl) ev_c (rv_I (wide_mul (a := 61) (b := 30) ?_ (by decide) (by decide) (by decide) (by decide)))) (ev_op (ev_op ev_c (ev_var rfl) (rv_I (wide_mul (a := 20) (b := 20) (by decide) (by decide) (by decide) (by decide) (by decide)))) (ev_var rfl) (rv_I (wide_mul (a := 20) (b := 20) (by decide) (by decide) (by decide) (by decide) (by decide)))) rv_I0) ev_c rv_I0)) ev_c (rv_I (by decide))) (ea_cons ev_c ea_nil))) (by show 3 ≤ 100000; decide)) H3 (Ex.refl H3) _ fun p H4 hp e4 hx => ?_
    · exact nat_lt s0 s1 (by decide)
    · have e13 := (e1.trans e2).trans e3
      refine k p _ _ H4 (fresh_back e13 hp) (e13.trans e4) hx ?_ (Int.emod_nonneg _ (by decide)) (Int.emod_lt_of_pos _ (by decide))
      exact Int.mul_nonneg (Int.emod_nonneg _ (by decide +kernel)) (bit01 _).1
end
def spTake : Sp := fun vs H Q _ => ∃ (p : Addr) (o m c : Int), vs = [.ref p, .int 100] ∧ H p = some (.lst [.int o, .int m, .int c]) ∧ 0 ≤ o ∧ 0 ≤ m ∧ m < 2305843009213693921 ∧ 0 ≤ c ∧ c ≤ 5 ∧
  ∀ (r : Nat) (o' c' : Int) (H' : Hp), r < 100 → Keep (fun c => c = p) H H' → H' p = some (.lst [.int o', .int m, .int c']) → 0 ≤ o' → 0 ≤ c' → c' ≤ c + 1 → Q (.int r) H'
abbrev nTk : List Str := ["pot", "upto", "digit", "prime", "blend"]
theorem scTk : FnScope nTk ["pot", "upto"] (C8.fnScope (top 42)) := C8.fnScope_by (by decide +kernel)
theorem modH (x : Int) : ∃ r : Nat, r < 100 ∧ x % 100 = (r : Int) := ⟨(x % 100).toNat, by omega, by omega⟩
def PRS : List Int := [2147483647, 2147483629, 2147483587, 2147483579, 2147483563]
theorem prs_at {n : Nat} (h : n < 5) : ∃ q : Int, (PRS.map V.int)[n]? = some (.int q) ∧ 0 < q ∧ q ≤ 2147483647 := by
  match n, h with
  | 0, _ => exact ⟨_, rfl, by decide, by decide⟩
  | 1, _ => exact ⟨_, rfl, by decide, by decide⟩
  | 2, _ => exact ⟨_, rfl, by decide, by decide⟩
  | 3, _ => exact ⟨_, rfl, by decide, by decide⟩
  | 4, _ => exact ⟨_, rfl, by decide, by decide⟩
section
variable {P : Program} {w : World} {K : PySem.W.Frag} {mg : Str → Option Value} {base : Heap} {f : Addr} {fd : FuncData}
theorem ok_take (F : C8.Def K mg "_law_take" (top 42) f fd) (b : Binds K fd ["pot", "upto"] []) (T : Txt3 K w mg) : C8.Cal P w K mg base 1 "_law_take" spTake [] := by
  refine C8.cal0 F b .nil scTk (fun vs H Q E h => by obtain ⟨p, o, m, c, rfl, _⟩ := h; rfl) (fun cdv A outer s H vs Q E hr h => ?_)
  obtain ⟨p, o, m, c, rfl, hp, ho, hm0, hm1, hc0, hc5, k⟩ := h
  refine ⟨_, pss_cons (ps_if (pt_cmpR op_gt (pe_ix ix_list (pv 0) pe_int (fun _ _ => rfl)) pe_int (nomark _))
      (pss_cons (ps_set (i := 2) scTk.nd rfl (Or.inl rfl) (pe_op op_mod (pe_callTy call_int1 (by rfl) T.int_ (by decide +kernel) (pa_cons (pe_ix ix_list (pv 0) pe_int (fun _ _ => rfl)) pa_nil)) (pv 1)))
      (pss_cons (ps_asg (pe_op op_fdiv (pe_ix ix_list (pv 0) pe_int (fun _ _ => rfl)) (pv 1)) (pg_sub (pv 0) pe_int set_list))
      (pss_one (ps_ret (pv 2))))) pss_nil)
    (pss_cons (ps_asg (pe_op op_add (pe_ix ix_list (pv 0) pe_int (fun _ _ => rfl)) pe_int) (pg_sub (pv 0) pe_int set_list))
    (pss_cons (ps_set (i := 3) scTk.nd rfl (Or.inl rfl) (pe_ix ix_list (pe_lst (pa_cons pe_int (pa_cons pe_int (pa_cons pe_int (pa_cons pe_int (pa_cons pe_int pa_nil)))))) (pe_op op_mod (pe_callTy call_int1 (by rfl) T.int_ (by decide +kernel) (pa_cons (pe_ix ix_list (pv 0) pe_int (fun _ _ => rfl)) pa_nil)) pe_int) (fun _ _ => rfl)))
    (pss_cons (ps_set (i := 4) scTk.nd rfl (Or.inl rfl) (pe_op op_mod (pe_callTy call_int1 (by rfl) T.int_ (by decide +kernel) (pa_cons (pe_op op_pow (pe_callTy call_int1 (by rfl) T.int_ (by decide +kernel) (pa_cons (pe_op op_add (pe_op op_add (pe_ix ix_list (pv 0) pe_int (fun _ _ => rfl)) (pe_op op_mulW (pe_op op_mulW pe_int (pe_ix ix_list (pv 0) pe_int (fun _ _ => rfl))) (pe_ix ix_list (pv 0) pe_int (fun _ _ => rfl)))) pe_int) pa_nil)) pe_int) pa_nil)) (pv 3)))
    (pss_one (ps_ret (pe_op op_mod (pe_callTy call_int1 (by rfl) T.int_ (by decide +kernel) (pa_cons (pe_op op_fdiv (pe_op op_mulW (pv 4) (pe_op op_add (pe_op op_mod (pe_callTy call_int1 (by rfl) T.int_ (by decide +kernel) (pa_cons (pv 4) pa_nil)) pe_int) (pe_op op_mulW pe_int (pe_ix ix_list (pv 0) pe_int (fun _ _ => rfl))))) pe_int) pa_nil)) (pv 1))))))), ?_⟩
  have v0 : ∀ {σ : L2.St} {G : Hp}, σ[0]? = some (some (.ref p)) → Ev (tVar 0) σ G (.ref p) := fun h => ev_var h
  have ixp : ∀ {σ : L2.St} {G : Hp} {xs : List V} {n : Nat} {v : V}, σ[0]? = some (some (.ref p)) → G p = some (.lst xs) → xs[n]? = some v → Ev (tOp (rIxL K) (tVar 0) (tC (.int n))) σ G v := fun h hG hx => ev_op (ev_var h) ev_c (rv_ixL (sq_of hG) (atI_nat hx))
  refine q_when (b := decide (0 < o)) (et_is (et_test (ev_op (ixp (n := 0) rfl hp rfl) ev_c rv_I0)) rfl) (fun hb H1 e1 => ?_) (fun hb H1 e1 => ?_)
  · refine q_asg (v := .int (o % 100)) (ev_op (ev_int1 (ixp (n := 0) rfl (e1 _ _ hp) rfl)) (ev_var rfl) (rv_I (by decide))) fun H2 e2 => ?_
    have e12 := e1.trans e2
    refine q_setL (j := 0) (v := .int (o / 100)) (e12 _ _ hp) (ev_op (ixp (n := 0) rfl (e12 _ _ hp) rfl) (ev_var rfl) (rv_I ⟨by decide, by decide⟩)) (ev_var rfl) ev_c (by show 0 < 3; decide) fun H3 e3 => ?_
    obtain ⟨r, hr14, hre⟩ := modH o
    refine s_ret (v := .int r) (ev_is (ev_var rfl) (by rw [hre])) fun H4 e4 => k r (o / 100) c H4 hr14 (Keep.ex (Keep.put (T := fun c => c = p) (Keep.of (e12.trans e3)) rfl) e4) (e4 _ _ upd_same) (by omega) hc0 (by omega)
  · refine q_setL (j := 2) (v := .int (c + 1)) (e1 _ _ hp) (ev_op (ixp (n := 2) rfl (e1 _ _ hp) rfl) ev_c rv_I0) (ev_var rfl) ev_c (by show 2 < 3; decide) fun H2 e2 => ?_
    have hp2 : (upd H2 p (.lst ([V.int o, .int m, .int c].set 2 (.int (c + 1))))) p = some (.lst [.int o, .int m, .int (c + 1)]) := upd_same
    have k2 : Keep (fun c => c = p) H (upd H2 p (.lst ([V.int o, .int m, .int c].set 2 (.int (c + 1))))) := (Keep.of (e1.trans e2)).put rfl
    generalize upd H2 p (.lst ([V.int o, .int m, .int c].set 2 (.int (c + 1)))) = G at hp2 k2
    generalize hd : c + 1 = d at hp2
    have d0 : 0 ≤ d := by omega
    have d6 : d ≤ 6 := by omega
    have dw : d.natAbs < 2 ^ 20 := nat_lt (m := 7) d0 (by omega) (by decide)
    obtain ⟨n, hn5, hne⟩ : ∃ n : Nat, n < 5 ∧ d % 5 = (n : Int) := ⟨(d % 5).toNat, by omega, by omega⟩
    obtain ⟨pr, hpr, pr0, pr1⟩ := prs_at hn5
    refine q_asg (v := .int pr) ?_ fun H3 e3 => ?_
    · have hl : EvL (tLst (tCons (tC (.int 2147483647)) (tCons (tC (.int 2147483629)) (tCons (tC (.int 2147483587)) (tCons (tC (.int 2147483579)) (tCons (tC (.int 2147483563)) tNil)))))) ([some (.ref p), some (.int 100), none, none, none] : L2.St) G (PRS.map V.int) :=
        el_lst (ea_cons ev_c (ea_cons ev_c (ea_cons ev_c (ea_cons ev_c (ea_cons ev_c ea_nil))))) (by show 5 ≤ 100000; decide)
      exact fun H1 e Q' q => hl H1 e _ fun t H4 ht e4 hx => (ev_is (ev_op (ev_int1 (ixp (n := 2) rfl hp2 rfl)) ev_c (rv_I (by decide))) (by rw [hne]) : Ev _ _ G (.int n)) H4 (e.trans e4) _ fun H5 e5 => ⟨t, _, n, .int pr, rfl, rfl, sq_of (e5 _ _ hx), atI_nat hpr, q H5 (e4.trans e5)⟩
    · have hp3 := e3 _ _ hp2
      have w1 : (100155 * d).natAbs < 2 ^ 20 := nat_lt (m := 1000000) (by omega) (by omega) (by decide)
      have sq : 0 ≤ 100155 * d * d ∧ 100155 * d * d ≤ 4000000 := by
        obtain rfl | rfl | rfl | rfl | rfl | rfl | rfl : d = 0 ∨ d = 1 ∨ d = 2 ∨ d = 3 ∨ d = 4 ∨ d = 5 ∨ d = 6 := by omega
        all_goals decide
      refine q_asg (v := .int (((m + 100155 * d * d + 1179) ^ (3 : Int).toNat) % pr)) ?_ fun H4 e4 => ?_
      · refine ev_op (ev_int1 (ev_op (ev_int1 (ev_op (ev_op (ixp (n := 1) rfl hp3 rfl) (ev_op (ev_op ev_c (ixp (n := 2) rfl hp3 rfl) (rv_I (wide_mul (a := 20) (b := 20) (by decide) dw (by decide) (by decide) (by decide)))) (ixp (n := 2) rfl hp3 rfl) (rv_I (wide_mul (a := 20) (b := 20) w1 dw (by decide) (by decide) (by decide)))) rv_I0) ev_c rv_I0)) ev_c (rv_I ⟨by decide, by decide, ?_⟩))) (ev_var rfl) (rv_I pr0)
        have := sq.1
        have := sq.2
        exact nat_lt (m := 2305843009213693921 + 5000000) (by omega) (by omega) (by decide)
      · have hp4 := e4 _ _ hp3
        generalize hbl : ((m + 100155 * d * d + 1179) ^ (3 : Int).toNat) % pr = bl
        have b0 : 0 ≤ bl := by rw [← hbl]; exact Int.emod_nonneg _ (by omega)
        have b1 : bl < pr := by rw [← hbl]; exact Int.emod_lt_of_pos _ pr0
        obtain ⟨r, hr14, hre⟩ := modH (bl * (bl % 10787 + 399 * d) / 251)
        refine s_ret (v := .int r) (ev_is (ev_op (ev_int1 (ev_op (ev_op (ev_var rfl) (ev_op (ev_op (ev_int1 (ev_var rfl)) ev_c (rv_I (by decide))) (ev_op ev_c (ixp (n := 2) rfl hp4 rfl) (rv_I (wide_mul (a := 20) (b := 20) (by decide) dw (by decide) (by decide) (by decide)))) rv_I0) (rv_I (wide_mul (a := 40) (b := 40) ?_ ?_ (by decide) (by decide) (by decide)))) ev_c (rv_I ⟨by decide, by decide⟩))) (ev_var rfl) (rv_I (by decide))) (by rw [hre])) fun H5 e5 => k r o (c + 1) H5 hr14 ((k2.ex (e3.trans e4)).ex e5) (by rw [hd]; exact e5 _ _ hp4) ho (by omega) (by omega)
        · exact nat_lt (m := 2147483648) b0 (by omega) (by decide)
        · exact nat_lt (m := 20000) (by omega) (by omega) (by decide)
end
end K5
set_option Elab.async false
set_option linter.all false
set_option maxRecDepth 100000
set_option maxHeartbeats 4000000
namespace K5
open PySem PySem.Spec PyProof.Rows L2 Evl Xl SX Mi
/-- what isinstance asks of instances of C -/
structure IsC (K : PySem.W.Frag) (C : Addr) : Prop where
  ha : PySem.W.findIn K (.ref C) "__class__" = some (some (.builtin "object.__class__"))
  hn : PySem.W.specialIn K (.builtin "object.__class__") "__get__" = some (some (.builtin "getset_descriptor.__get__"))
  ht : PySem.W.takesIn K (.builtin "object.__class__") = some true
  hm : PySem.W.mroIn K C (.type "object") = some true
theorem kit_self {K : PySem.W.Frag} {C : Addr} : PySem.W.kitOne K (.ref C) (.ref C) = some true := by
  unfold PySem.W.kitOne
  exact if_pos (by simp)
theorem passX {X : Cx} : Passes (L2.CX X.prog X.w) X C8.E0 := fun _ _ _ _ _ _ _ h => by
  obtain ⟨_, _, _, _, _, _, _, _, _, _, _, _, z⟩ := h
  exact z.elim
theorem ev_isi {K : PySem.W.Frag} {ta : TE} {σ : L2.St} {H : Hp} {a C dx : Addr} {fs : List (Str × V)} (h : Ev ta σ H (.ref a)) (ha : H a = some (.ins C dx fs)) (c : Cls K C) (i : IsC K C) :
    Ev (tCB (fun xs H Q => ∃ x c t u b, xs = [x, c] ∧ ClsV c u ∧ TyX K H x t ∧ PySem.W.kitOne K t u = some b ∧ Q (V.bl b) H) (tCons ta (tCons (tC (.ref C)) tNil))) σ H (.bl true) :=
  ev_cb (ea_cons h (ea_cons ev_c ea_nil)) fun H1 e1 Q q => ⟨.ref a, .ref C, .ref C, .ref C, true, rfl, .own C, .base (.ins (e1 _ _ ha) c i.ha i.hn i.ht i.hm), kit_self, q H1 (Ex.refl H1)⟩
section
variable {P : Program} {w : World} {K : PySem.W.Frag} {mg : Str → Option Value} {base : Heap} {f : Addr} {fd : FuncData}
abbrev sPt : Stmt := inClass (top 36) 2
abbrev sBi : Stmt := inClass (top 36) 4
theorem scPt : FnScope ["self"] ["self"] (C8.fnScope sPt) := C8.fnScope_by (by decide +kernel)
theorem scBi : FnScope ["self"] ["self"] (C8.fnScope sBi) := C8.fnScope_by (by decide +kernel)
theorem ok_parts {CP : Addr} (F : C8.Fun K "parts" "Program.parts" sPt f fd) (G : ProgC K mg CP) : FnOk P w K mg base C8.CX0 1 f fd ["self"] (getSp CP "_parts") := by
  obtain ⟨oc, od, dV, kV, doc, pm, an, cdv, ct, osl, rfl, lk, hcd⟩ := F.ex
  exact fn_getter lk hcd scPt rfl rfl G.cl G.n3
theorem ok_bindings {CP : Addr} (F : C8.Fun K "bindings" "Program.bindings" sBi f fd) (G : ProgC K mg CP) : FnOk P w K mg base C8.CX0 1 f fd ["self"] (getSp CP "_bindings") := by
  obtain ⟨oc, od, dV, kV, doc, pm, an, cdv, ct, osl, rfl, lk, hcd⟩ := F.ex
  exact fn_getter lk hcd scBi rfl rfl G.cl G.n6
def spEqv (CP : Addr) : Sp := fun vs H Q _ => ∃ (a b dx dy : Addr) (fs gs : List (Str × V)) (s t : Str), vs = [.ref a, .ref b] ∧ H a = some (.ins CP dx fs) ∧ H b = some (.ins CP dy gs) ∧ fs.lookup ("_text" : Str) = some (.str s) ∧ gs.lookup ("_text" : Str) = some (.str t) ∧ ∀ H', Ex H H' → Q (.bl (decide (s = t))) H'
abbrev sEqv : Stmt := inClass (top 36) 5
theorem scEqv : FnScope ["self", "other"] ["self", "other"] (C8.fnScope sEqv) := C8.fnScope_by (by decide +kernel)
theorem ok_eqv {CP : Addr} (F : C8.Fun K "__eq__" "Program.__eq__" sEqv f fd) (T : Txt K w mg) (isi_ : mg "isinstance" = none) (G : ProgC K mg CP) (IS : IsC K CP) : FnOk P w K mg base C8.CX0 1 f fd ["self", "other"] (spEqv CP) := by
  refine C8.fn0 F scEqv (fun vs H Q E h => by obtain ⟨a, b, dx, dy, fs, gs, s, t, rfl, _⟩ := h; rfl) (fun cdv A outer s H vs Q E hr h => ?_)
  obtain ⟨a, b, dx, dy, fs, gs, s, t, rfl, ha, hb, hs, ht, k⟩ := h
  refine ⟨_, pss_one (ps_ret (pe_and (pe_callB call_isi (by rfl) isi_ (by decide +kernel) (pa_cons (pv 1) (pa_cons (pe_glob (v := .ref CP) (by rfl) G.mgC rfl) pa_nil))) (pe_one (pe_cmpR op_eq (pe_fld (pv 0) rfl) (pe_fld (pv 1) rfl) (nomark _))))), ?_⟩
  refine s_ret (v := .bl (decide (s = t))) (ev_is (ev_andV (a := true) (b := decide (V.str s = V.str t)) (ev_isi (ev_var rfl) hb G.cl IS) fun _ => ev_op (ev_fld (ev_var rfl) ha G.cl G.n1 hs) (ev_fld (ev_var rfl) hb G.cl G.n1 ht) (rv_eq rfl)) ?_) k
  congr 1
  exact decide_eq_decide.mpr ⟨fun z => V.str.inj z, fun z => by rw [z]⟩
def spPT (CP : Addr) : Sp := fun vs H Q _ => ∃ (p dx D t : Addr) (fs : List (Str × V)) (names told : List Str) (kvs : List (Key × V)), vs = [.ref p] ∧ H p = some (.ins CP dx fs) ∧ fs.lookup ("_parts" : Str) = some (.ref t) ∧ H t = some (.tup (names.map V.str)) ∧ fs.lookup ("line" : Str) = none ∧
  fs.lookup ("_lines" : Str) = some (.ref D) ∧ H D = some (.dK kvs) ∧ names.length = told.length ∧ told.length ≤ 1000 ∧ (∀ (i : Nat) nm, names[i]? = some nm → ∃ ln, told[i]? = some ln ∧ valV kvs (.inr nm) = some (.str ln)) ∧
  (told.map (·.length)).sum + told.length ≤ 16777216 ∧ ∀ H', Ex H H' → Q (.str (Txt.join "\n" told)) H'
abbrev nPT : List Str := ["program", "name"]
theorem scPT : FnScope nPT ["program"] (C8.fnScope (top 38)) := C8.fnScope_by (by decide +kernel)
theorem ok_parts_text {CP CE fP pP fL : Addr} {fdP fdL : FuncData} (F : C8.Def K mg "parts_text" (top 38) f fd) (b : Binds K fd ["program"] []) (T : Txt K w mg) (isi_ : mg "isinstance" = none) (G : ProgC K mg CP) (IS : IsC K CP)
    (PP : PropOf K CP "parts" pP fP) (FP : FnOk P w K mg base C8.CX0 1 fP fdP ["self"] (getSp CP "_parts")) (bP : Binds K fdP ["self"] []) (ML : Meth K CP "line" fL) (FL : FnOk P w K mg base (L2.CX P w) 3 fL fdL ["self", "name"] (spLi CP CE)) (bL : Binds K fdL ["self", "name"] []) :
    C8.Cal P w K mg base 4 "parts_text" (spPT CP) [] := by
  refine C8.cal0 F b .nil scPT (fun vs H Q E h => by obtain ⟨p, dx, D, t, fs, names, told, kvs, rfl, _⟩ := h; rfl) (fun cdv A outer s H vs Q E hr h => ?_)
  obtain ⟨p, dx, D, t, fs, names, told, kvs, rfl, hp, hpt, ht, hln, hl, hD, hlen, h1000, hev, hsz, k⟩ := h
  refine ⟨_, pss_cons (ps_if (pt_not (pt_val (pe_callB call_isi (by rfl) isi_ (by decide +kernel) (pa_cons (pv 0) (pa_cons (pe_glob (v := .ref CP) (by rfl) G.mgC rfl) pa_nil))))) (pss_one ps_never) pss_nil)
    (pss_one (ps_ret (pe_join pe_str (pe_lc (own := [("name", 1)]) (g := gName 1) (tt := tYes) (te := tMeth CP "line" (spLi CP CE) [] C8.E0 (tVar 0) (tCons (tVar 1) tNil)) rfl scPT.nd (pi_tup (pe_prop (E := C8.E0) (pv 0) G.cl PP FP (hr.mono (by decide)) bP .nil C8.pass0 (by rfl))) (blkOk_by (N := nPT) (sc := C8.fnScope (top 38)) (by decide +kernel))
      (fun _ _ _ _ _ => pg_name (i := 1) scPT.nd rfl (Or.inl rfl)) (fun _ _ _ _ _ => pts_nil) (fun _ _ _ _ _ => pe_meth (pv 0) G.cl ML FL hr bL .nil passX (pa_cons (pv 1) pa_nil)))))), ?_⟩
  refine q_when (b := false) (et_is (et_not (et_B (ev_isi (ev_var rfl) hp G.cl IS))) rfl) (fun z => by cases z) (fun _ H1 e1 => ?_)
  refine ⟨⟨_, rfl⟩, ?_⟩
  refine ⟨_, rfl, p, dx, fs, rfl, e1 _ _ hp, p, dx, fs, .ref t, rfl, e1 _ _ hp, hpt, t, rfl, ⟨_, st_of (e1 _ _ ht)⟩, fun DL hDL => ?_⟩
  refine comp_walk (body := fun x H' Nx => gName 1 x (wipe ([some (.ref p), none] : L2.St) [1]) H' fun σ2 H2 => wipe σ2 [1] = wipe ([some (.ref p), none] : L2.St) [1] ∧ tYes σ2 H2 fun b H3 => if b = true then tMeth CP "line" (spLi CP CE) [] C8.E0 (tVar 0) (tCons (tVar 1) tNil) σ2 H3 fun y H4 => ∃ acc, H4 DL = some (.lst acc) ∧ acc.length < sizeLine ∧ Nx (upd H4 DL (.lst (acc ++ [y]))) else Nx H3)
    (walk_tup (K := K) (a := t) (xs := names.map V.str)) (fun i G' => Ex H1 G' ∧ G' DL = some (.lst ((told.take i).map V.str))) ⟨ex_put hDL (Ex.refl H1), upd_same⟩ (fun i G' _ hq => st_of (hq.1 _ _ (e1 _ _ ht))) (fun i G' x G2 hi hq hy => ?_) (fun G' hq => ?_)
  · obtain ⟨rfl, hx⟩ := hy
    obtain ⟨eG, hd⟩ := hq
    rw [List.getElem?_map] at hx
    cases z : names[i]? with
    | none => rw [z] at hx; cases hx
    | some nm =>
      rw [z] at hx
      obtain rfl : V.str nm = x := Option.some.inj hx
      obtain ⟨ln, hln2, hv⟩ := hev i nm z
      have eH := e1.trans eG
      refine ⟨rfl, ?_⟩
      refine ⟨_, rfl, p, dx, fs, rfl, eH _ _ hp, hln, ?_⟩
      refine ⟨_, rfl, p, dx, D, nm, fs, kvs, rfl, eH _ _ hp, hl, eH _ _ hD, fun v hv2 H5 e5 => ?_, fun z2 => by rw [hv] at z2; cases z2⟩
      rw [hv] at hv2
      cases hv2
      refine ⟨_, e5 _ _ hd, ?_, ex_put hDL (eG.trans e5), ?_⟩
      · rw [List.length_map, List.length_take, sizeLine_eq]; omega
      · rw [upd_same, List.take_add_one, hln2, List.map_append]
        rfl
  · obtain ⟨eG, hd⟩ := hq
    have lx : (names.map V.str).length = told.length := by rw [List.length_map, hlen]
    rw [lx, List.take_length] at hd
    exact ⟨_, DL, told, rfl, rfl, .inl (sq_of hd), by have : (("\n" : Str)).length = 1 := rfl; rw [this]; omega, k _ (e1.trans eG)⟩
def RUNW : Wd := [114, 117, 110, 32]
def jtext (a b : Wd) : Wd := a ++ [10] ++ (RUNW ++ b)
def spJT (CP CL C : Addr) : Sp := fun vs H Q _ => ∃ (a b : Wd) (ls : List Ln), vs = [.str (S a), .str (S b)] ∧ a ≠ [] ∧ a.length ≤ 400 ∧ b.length ≤ 400 ∧ readProg (jtext a b) = .ok ls ∧ ∀ p dx H', Ex H H' → ProgAt CP CL C H' p dx (jtext a b) ls → Q (.ref p) H'
abbrev nJT : List Str := ["parts", "expression", "line"]
theorem scJT : FnScope nJT ["parts", "expression"] (C8.fnScope (top 39)) := C8.fnScope_by (by decide +kernel)
theorem ev_join2 {ta tb : TE} {σ : L2.St} {H : Hp} {a b : Wd} (ha : Ev ta σ H (.str (S a))) (hb : Ev tb σ H (.str (S b))) (hl : a.length + b.length ≤ 100000) : Ev (fun σ H Q => tJs [ta, tb] Str.empty σ H fun out H1 => Q (.str out) H1) σ H (.str (S (a ++ b))) := fun H1 e Q q => by
  have h0 : (Str.empty ++ S a : Str) = S a := S_cat (a := []) (b := a)
  refine ha H1 e _ fun H2 e2 => ⟨S a, rfl, ?_, hb H2 (e.trans e2) _ fun H3 e3 => ⟨S b, rfl, ?_, ?_⟩⟩
  · rw [h0, S_len, sizeLine_eq]; omega
  · rw [h0, S_cat, S_len, List.length_append, sizeLine_eq]; omega
  · show Q (.str ((Str.empty ++ S a) ++ S b)) H3
    rw [h0, S_cat]
    exact q H3 (e2.trans e3)
theorem ok_joined_text {CP CL C CB fg : Addr} {fdg : FuncData} (F : C8.Def K mg "joined_text" (top 39) f fd) (b : Binds K fd ["parts", "expression"] []) (cT : C8.Cal P w K mg base 1 "is_text" (spIsText K) []) (G : ProgC K mg CP) (MP : Mk K CP fg)
    (FG : FnOk P w K mg base (L2.CX P w) 7 fg fdg ["self", "text"] (spPrX K CB CP CL C)) (bG : Binds K fdg ["self", "text"] []) : C8.Cal P w K mg base 9 "joined_text" (spJT CP CL C) [] := by
  refine C8.cal0 F b .nil scJT (fun vs H Q E h => by obtain ⟨a, b, ls, rfl, _⟩ := h; rfl) (fun cdv A outer s H vs Q E hr h => ?_)
  obtain ⟨a, b, ls, rfl, hne, ha, hb, hls, k⟩ := h
  have l1 : (Str.ofString "run " : Str) = S RUNW := by decide
  have l2 : (Str.ofString "\n" : Str) = S [10] := by decide
  refine ⟨_, pss_cons (ps_if (pw_or (pt_not (pt_val (C8.pe_c cT hr (by decide) (by rfl) (pa_cons (pv 0) pa_nil)))) (pw_or1 (pt_not (pt_val (C8.pe_c cT hr (by decide) (by rfl) (pa_cons (pv 1) pa_nil)))))).pt (pss_one ps_never) pss_nil)
    (pss_cons (ps_set (i := 2) scJT.nd rfl (Or.inl rfl) (pe_joined (.cons pe_str (.cons (pe_fmt (pv 1)) .nil))))
    (pss_one (ps_ret (pe_make (E := C8.E0) MP FG hr (by rfl) G.mgC bG .nil passX (pa_cons (pe_ifExp (pt_truth (pv 0) (by intro _; rfl)) (pe_joined (.cons (pe_fmt (pv 0)) (.cons pe_str (.cons (pe_fmt (pv 2)) .nil)))) (pv 2)) pa_nil))))), ?_⟩
  have isT : ∀ {x : Wd} {i : Nat} {σ : L2.St} {G : Hp}, σ[i]? = some (some (.str (S x))) → EvT (tB (tCall (spIsText K) [] C8.E0 (tCons (tVar i) tNil))) σ G true := fun h => et_B (ev_call (ea_cons (ev_var h) ea_nil) fun H1 e1 Q' q E' => ⟨_, "str", rfl, .str _, q H1 (Ex.refl H1)⟩)
  have fm : ∀ {x : Wd} {i : Nat} {σ : L2.St} {G : Hp}, σ[i]? = some (some (.str (S x))) → x.length ≤ 9000 → Ev (tFmt (tVar i)) σ G (.str (S x)) := fun h hl H1 e1 Q' q => ⟨_, h, .inl ⟨_, rfl, by rw [S_len, sizeLine_eq]; omega, q H1 (Ex.refl H1)⟩⟩
  refine q_when (b := false) (et_is (et_or (a := false) (b := false) (et_is (et_not (isT rfl)) rfl) fun _ => et_is (et_not (isT rfl)) rfl) rfl) (fun z => by cases z) (fun _ H1 e1 => ?_)
  refine q_asg (v := .str (S (RUNW ++ b))) (ev_join2 (by rw [← l1]; exact ev_c) (fm rfl (by omega)) (by simp [RUNW]; omega)) fun H2 e2 => ?_
  have e02 := e1.trans e2
  refine r_make (vs := [.str (S (jtext a b))]) (ea_cons ?_ ea_nil) fun H3 e3 p dx hp hdx hne2 => ?_
  · refine ev_if (b := true) (fun H4 e4 Q' q => ⟨_, rfl, true, ?_, q H4 (Ex.refl H4)⟩) (fun _ => ?_) fun z => (by cases z)
    · refine ⟨by rw [S_len, sizeLine_eq]; omega, ?_⟩
      cases a with
      | nil => exact absurd rfl hne
      | cons c r =>
        simp [S_len]
        omega
    · refine fun H4 e4 Q' q => ?_
      have h0 : (Str.empty ++ S a : Str) = S a := S_cat (a := []) (b := a)
      refine ⟨_, rfl, .inl ⟨_, rfl, by rw [S_len, sizeLine_eq]; omega, S a, rfl, by rw [h0, S_len, sizeLine_eq]; omega, ?_⟩⟩
      refine ⟨S [10], l2 ▸ rfl, by rw [h0, S_cat, S_len, List.length_append, sizeLine_eq]; simp; omega, ?_⟩
      refine ⟨_, rfl, .inl ⟨_, rfl, by rw [S_len, sizeLine_eq]; simp [RUNW]; omega, S (RUNW ++ b), rfl, by rw [h0, S_cat, S_cat, S_len, sizeLine_eq]; simp [RUNW]; omega, ?_⟩⟩
      show Q' (.str (((Str.empty ++ S a) ++ S [10]) ++ S (RUNW ++ b))) H4
      rw [h0, S_cat, S_cat]
      exact q H4 (Ex.refl H4)
  · refine ⟨p, dx, _, rfl, upd_same, .inr ⟨jtext a b, rfl, by simp [jtext, RUNW]; omega, (fun e he => by rw [hls] at he; cases he), fun ls' hls' H' K' hP => ⟨rfl, ?_⟩⟩⟩
    rw [hls] at hls'
    cases hls'
    refine k p dx H' (fun c o hc => ?_) hP
    have h3 := e3 _ _ (e02 _ _ hc)
    exact K' c o (fun z => by rw [z, hp] at h3; cases h3) (ex_put hp (ex_put hdx (Ex.refl H3)) c o h3)
end
end K5
set_option Elab.async false
set_option linter.all false
set_option maxRecDepth 100000
set_option maxHeartbeats 4000000
namespace K6
open PySem PySem.Spec PyProof.Rows L2 Evl Xl SX Mi K5
def numW (n : Nat) : Wd := if n < 10 then [48 + n] else [48 + n / 10, 48 + n % 10]
/-- the text of -k -/
def negW (k : Nat) : Wd := if k = 0 then [48] else 45 :: numW k
def EVN : Wd := [101, 118, 101, 110]
def ODD : Wd := [111, 100, 100]
def RUN : Wd := [114, 117, 110]
def evenW (n : Nat) : Wd := [112, 97, 114, 116, 32, 101, 118, 101, 110, 32, 102, 117, 110, 32, 110, 32, 112, 105, 99, 107, 32, 110, 32] ++ numW n ++ [32, 99, 97, 108, 108, 32, 111, 100, 100, 32, 112, 108, 117, 115, 32, 110, 32, 45, 49]
def oddW (m : Nat) : Wd := [112, 97, 114, 116, 32, 111, 100, 100, 32, 102, 117, 110, 32, 110, 32, 108, 101, 116, 32, 110, 32, 112, 97, 105, 114, 32, 110, 32] ++ negW m ++ [32, 112, 105, 99, 107, 32, 102, 105, 114, 115, 116, 32, 110, 32, 48, 32, 99, 97, 108, 108, 32, 101, 118, 101, 110, 32, 115, 101, 99, 111, 110, 100, 32, 110]
def restW : Wd := [108, 101, 116, 32, 101, 118, 101, 110, 50, 32, 102, 117, 110, 32, 111, 100, 100, 50, 32, 99, 97, 108, 108, 32, 111, 100, 100, 50, 32, 50, 32, 112, 97, 105, 114, 32, 99, 97, 108, 108, 32, 101, 118, 101, 110, 50, 32, 101, 118, 101, 110, 32, 99, 97, 108, 108, 32, 101, 118, 101, 110, 50, 32, 102, 117, 110, 32, 120, 32, 112, 108, 117, 115, 32, 120, 32, 120]
def runW : Wd := RUNW ++ restW
structure Told where
  sign : Wd
  inner : List Nat
  around : Option Nat
  bound : Option Nat
  deriving DecidableEq
def toldOf (ns : List Nd) (j : Nat) : Told := ⟨(nth ns j).sign, (nth ns j).within.map fun k => (nth ns k).at_, (nth ns j).outer.map fun k => (nth ns k).at_, (nth ns j).binder.map fun k => (nth ns k).at_⟩
def within_ok (ns : List Nd) : Bool := (List.range ns.length).all fun j => ((nth ns j).within.all fun k => decide (k < ns.length)) && ((nth ns j).outer.all fun k => decide (k < ns.length)) && ((nth ns j).binder.all fun k => decide (k < ns.length)) && decide ((nth ns j).within.length ≤ 3)
def entsOk (ns : List Nd) (es : List (Nat × Told)) : Bool := es.all fun e => (List.range ns.length).any fun j => decide ((nth ns j).at_ = e.1) && decide (toldOf ns j = e.2)
def bkAt (ws : List Wd) (ns : List Nd) : List Nat := (ns.filter fun d => decide (d.kind ∈ ws)).map (·.at_)
def evenE (n : Nat) : List (Nat × Told) := [(2, ⟨[102, 117, 110], [4], none, none⟩), (4, ⟨[112, 105, 99, 107], [5, 6, 7], (some 2), none⟩), (5, ⟨[110], [], (some 4), (some 2)⟩), (6, ⟨(numW n), [], (some 4), none⟩), (8, ⟨[111, 100, 100], [], (some 7), none⟩), (9, ⟨[112, 108, 117, 115], [10, 11], (some 7), none⟩)]
def oddE (m : Nat) : List (Nat × Told) := [(4, ⟨[108, 101, 116], [6, 9], (some 2), none⟩), (7, ⟨[110], [], (some 6), (some 2)⟩), (11, ⟨[110], [], (some 10), (some 4)⟩), (16, ⟨[110], [], (some 15), (some 4)⟩), (8, ⟨(negW m), [], (some 6), none⟩)]
def runE : List (Nat × Told) := [(1, ⟨[108, 101, 116], [3, 8], none, none⟩), (6, ⟨[111, 100, 100, 50], [], (some 5), (some 3)⟩), (10, ⟨[101, 118, 101, 110, 50], [], (some 9), (some 1)⟩), (11, ⟨[101, 118, 101, 110], [], (some 9), none⟩), (17, ⟨[120], [], (some 16), (some 14)⟩), (18, ⟨[120], [], (some 16), (some 14)⟩)]
def evenL (n : Nat) : Ln := (readLine (evenW n)).getD default
def oddL (m : Nat) : Ln := (readLine (oddW m)).getD default
def runL : Ln := (readLine runW).getD default
/-- all that is asked of a line -/
def lineOk (w : Wd) (l : Ln) (nm : Wd) (nms : List Wd) (es : List (Nat × Told)) (bk no : List Nat) : Bool :=
  (readLine w).isSome && decide (l.name = nm) && decide (l.told = w) && decide (l.names = nms) && known [EVN, ODD] l && known [ODD, EVN] l && within_ok l.nodes && entsOk l.nodes es && decide (bkAt BWS l.nodes = bk) && (no.all fun a => (List.range l.nodes.length).all fun j => !decide ((nth l.nodes j).at_ = a)) && decide (10 ∉ w) && decide (w.length ≤ 150) && decide (l.nodes.length ≤ 40)
theorem even_ok : ((List.range 100).all fun n => lineOk (evenW n) (evenL n) EVN [[110]] (evenE n) [7] [0, 1, 3, 12]) = true := by decide +kernel
theorem odd_ok : ((List.range 100).all fun m => lineOk (oddW m) (oddL m) ODD [[110], [110]] (oddE m) [4, 6, 13] [5, 17]) = true := by decide +kernel
theorem run_ok : lineOk runW runL RUN [[101, 118, 101, 110, 50], [111, 100, 100, 50], [120]] runE [1, 5, 8, 9, 12] [2, 4, 15, 19] = true := by decide +kernel
theorem num_text : ((List.range 100).all fun n => decide ((Str.ofString (toString (n : Int))).cps.toList = numW n) && decide ((Str.ofString (toString ((n : Int) - 99))).cps.toList = negW (99 - n))) = true := by decide +kernel
structure LineIs (w : Wd) (l : Ln) (nm : Wd) (nms : List Wd) (es : List (Nat × Told)) (bk no : List Nat) : Prop where
  read : readLine w = some l
  name : l.name = nm
  told : l.told = w
  names : l.names = nms
  kn1 : known [EVN, ODD] l = true
  kn2 : known [ODD, EVN] l = true
  win : within_ok l.nodes = true
  ents : entsOk l.nodes es = true
  bk_ : bkAt BWS l.nodes = bk
  no_ : ∀ a ∈ no, ∀ j, j < l.nodes.length → (nth l.nodes j).at_ ≠ a
  feed : 10 ∉ w
  len : w.length ≤ 150
  few : l.nodes.length ≤ 40
theorem line_is {w : Wd} {nm : Wd} {nms : List Wd} {es : List (Nat × Told)} {bk no : List Nat} (h : lineOk w ((readLine w).getD default) nm nms es bk no = true) : LineIs w ((readLine w).getD default) nm nms es bk no := by
  unfold lineOk at h
  simp only [Bool.and_eq_true, decide_eq_true_eq, List.all_eq_true, List.mem_range, Bool.not_eq_true', decide_eq_false_iff_not] at h
  obtain ⟨⟨⟨⟨⟨⟨⟨⟨⟨⟨⟨⟨h1, h2⟩, h3⟩, h4⟩, h5⟩, h6⟩, h7⟩, h8⟩, h9⟩, h10⟩, h11⟩, h12⟩, h13⟩ := h
  refine ⟨?_, h2, h3, h4, h5, h6, h7, h8, h9, h10, h11, h12, h13⟩
  cases z : readLine w with
  | none => rw [z] at h1; cases h1
  | some l => rfl
theorem even_is {n : Nat} (h : n < 100) : LineIs (evenW n) (evenL n) EVN [[110]] (evenE n) [7] [0, 1, 3, 12] := line_is (List.all_eq_true.mp even_ok n (List.mem_range.mpr h))
theorem odd_is {m : Nat} (h : m < 100) : LineIs (oddW m) (oddL m) ODD [[110], [110]] (oddE m) [4, 6, 13] [5, 17] := line_is (List.all_eq_true.mp odd_ok m (List.mem_range.mpr h))
theorem run_is : LineIs runW runL RUN [[101, 118, 101, 110, 50], [111, 100, 100, 50], [120]] runE [1, 5, 8, 9, 12] [2, 4, 15, 19] := line_is run_ok
theorem num_is {n : Nat} (h : n < 100) : (Str.ofString (toString (n : Int)) : Str) = S (numW n) ∧ (Str.ofString (toString ((n : Int) - 99)) : Str) = S (negW (99 - n)) := by
  have t := List.all_eq_true.mp num_text n (List.mem_range.mpr h)
  simp only [Bool.and_eq_true, decide_eq_true_eq] at t
  rw [← t.1, ← t.2, S_tl, S_tl]
  exact ⟨rfl, rfl⟩
end K6
set_option Elab.async false
set_option linter.all false
set_option maxRecDepth 100000
set_option maxHeartbeats 4000000
namespace K6
open PySem PySem.Spec PyProof.Rows L2 Evl Xl SX Mi K5
def cs (nm : Wd) (nms : List Wd) (ahead : List (Wd × List Wd)) : Bool :=
  if [114, 117, 110] ∈ ahead.map (·.1) ∨ nm ∈ ahead.map (·.1) then false
  else if nm ≠ [114, 117, 110] ∧ ahead.length = 12 then false
  else if nm ∈ nms ∨ (ahead.any fun o => decide (nm ∈ o.2)) = true then false
  else !(nms.any fun n => decide (n ∈ ahead.map (·.1)))
theorem canStand_cs {l : Ln} {ls : List Ln} : canStand l ls = cs l.name l.names (ls.map fun o => (o.name, o.names)) := by
  unfold canStand cs
  simp only [List.map_map, List.any_map, List.length_map]
  rfl
theorem spl_line : ∀ {a b x : Wd}, 10 ∉ a → TL.spl [10] 0 x (a ++ 10 :: b) = (x ++ a) :: TL.spl [10] 0 [] b := by
  intro a
  induction a with
  | nil =>
    intro b x _
    rw [List.nil_append, List.append_nil]
    exact TL.spl_hit (by simp [TL.pre])
  | cons c r ih =>
    intro b x h
    have hc : c ≠ 10 := fun z => h (by rw [z]; exact List.mem_cons_self)
    have hr : 10 ∉ r := fun z => h (List.mem_cons_of_mem _ z)
    rw [List.cons_append, TL.spl.eq_2, if_neg (by simp [TL.pre]; exact hc), ih hr, List.append_assoc]
    rfl
theorem spl_end : ∀ {a x : Wd}, 10 ∉ a → TL.spl [10] 0 x a = [x ++ a] := by
  intro a
  induction a with
  | nil => intro x _; rw [TL.spl.eq_1, List.append_nil]
  | cons c r ih =>
    intro x h
    have hc : c ≠ 10 := fun z => h (by rw [z]; exact List.mem_cons_self)
    have hr : 10 ∉ r := fun z => h (List.mem_cons_of_mem _ z)
    rw [TL.spl.eq_2, if_neg (by simp [TL.pre]; exact hc), ih hr, List.append_assoc]
    rfl
def text3 (a b c : Wd) : Wd := a ++ [10] ++ (b ++ [10] ++ c)
theorem read3 {a b c : Wd} {A B C : Ln} (ra : readLine a = some A) (rb : readLine b = some B) (rc : readLine c = some C) (fa : 10 ∉ a) (fb : 10 ∉ b) (fc : 10 ∉ c) (h1 : canStand A [] = true) (h2 : canStand B [A] = true) (h3 : canStand C [A, B] = true) (hr : C.name = RUN)
    (k1 : known [A.name, B.name] A = true) (k2 : known [A.name, B.name] B = true) (k3 : known [A.name, B.name] C = true) : readProg (text3 a b c) = .ok [A, B, C] := by
  have s : TL.spl [10] 0 [] (text3 a b c) = [a, b, c] := by
    have e : text3 a b c = a ++ 10 :: (b ++ 10 :: c) := by simp [text3]
    rw [e, spl_line fa, spl_line fb, spl_end fc]
    simp
  unfold readProg
  rw [s]
  have l : linesM [a, b, c] [] = .ok [A, B, C] := by
    simp only [linesM, ra, rb, rc, List.nil_append, h1, h2, h3, if_true, List.cons_append]
  rw [l]
  dsimp only
  have hl : ([A, B, C].getLastD default).name = [114, 117, 110] := hr
  rw [if_neg (by rw [hl]; simp)]
  have hd : [A, B, C].dropLast.map (·.name) = [A.name, B.name] := rfl
  rw [hd]
  have hf : firstUnknown [A.name, B.name] 1 [A, B, C] = none := by
    simp only [firstUnknown, k1, k2, k3, if_true]
  rw [hf]
theorem prog1 {n m : Nat} (hn : n < 100) (hm : m < 100) : readProg (text3 (evenW n) (oddW m) runW) = .ok [evenL n, oddL m, runL] := by
  have E := even_is hn
  have O := odd_is hm
  have R := run_is
  refine read3 E.read O.read R.read E.feed O.feed R.feed ?_ ?_ ?_ R.name ?_ ?_ ?_
  · rw [canStand_cs, E.name, E.names]; decide
  · rw [canStand_cs, O.name, O.names]
    simp only [List.map_cons, List.map_nil, E.name, E.names]
    decide
  · rw [canStand_cs, R.name, R.names]
    simp only [List.map_cons, List.map_nil, E.name, E.names, O.name, O.names]
    decide
  · rw [E.name, O.name]; exact E.kn1
  · rw [E.name, O.name]; exact O.kn1
  · rw [E.name, O.name]; exact R.kn1
theorem prog2 {n m : Nat} (hn : n < 100) (hm : m < 100) : readProg (text3 (oddW m) (evenW n) runW) = .ok [oddL m, evenL n, runL] := by
  have E := even_is hn
  have O := odd_is hm
  have R := run_is
  refine read3 O.read E.read R.read O.feed E.feed R.feed ?_ ?_ ?_ R.name ?_ ?_ ?_
  · rw [canStand_cs, O.name, O.names]; decide
  · rw [canStand_cs, E.name, E.names]
    simp only [List.map_cons, List.map_nil, O.name, O.names]
    decide
  · rw [canStand_cs, R.name, R.names]
    simp only [List.map_cons, List.map_nil, E.name, E.names, O.name, O.names]
    decide
  · rw [E.name, O.name]; exact O.kn2
  · rw [E.name, O.name]; exact E.kn2
  · rw [E.name, O.name]; exact R.kn2
def bkKeys (l : Ln) : List (List Key) := (bkAt BWS l.nodes).map fun (a : Nat) => [Sum.inr (S l.name), Sum.inl (a : Int)]
theorem bind_keys {lrs : List LRec} {ls : List Ln} : bindKeys lrs ls BWS (nodeTab lrs ls ls.length).length = (List.range ls.length).flatMap fun i => bkKeys (lnth ls i) := by
  unfold bindKeys
  rw [List.take_length]
  unfold nodeTab
  rw [List.filter_flatMap, List.map_flatMap]
  congr 1
  funext i
  unfold bkKeys bkAt
  conv => rhs; rw [nds_range (ns := (lnth ls i).nodes)]
  rw [List.filter_map, List.filter_map, List.map_map, List.map_map, List.map_map]
  rfl
theorem val_there {lrs : List LRec} {ls : List Ln} (hn : (ls.map (·.name)).Nodup) (ha : ∀ l ∈ ls, AtsApart l) {i j : Nat} (hi : i < ls.length) (hj : j < (lnth ls i).nodes.length) : valV (nodeKvs lrs ls ls.length) [.inr (S (lnth ls i).name), .inl ((nth (lnth ls i).nodes j).at_ : Int)] = some (.ref (R (LR lrs i).rs j).a) := by
  have hm : nodeKv lrs ls i j ∈ nodeKvs lrs ls ls.length := List.mem_flatMap.mpr ⟨i, List.mem_range.mpr hi, List.mem_map.mpr ⟨j, List.mem_range.mpr hj, rfl⟩⟩
  obtain ⟨q, hq⟩ := List.getElem?_of_mem hm
  exact valV_one (keys_nodup hn ha (Nat.le_refl _)) hq
theorem val_none {lrs : List LRec} {ls : List Ln} {nm : Wd} {a : Nat} (h : ∀ i, i < ls.length → (lnth ls i).name = nm → ∀ j, j < (lnth ls i).nodes.length → (nth (lnth ls i).nodes j).at_ ≠ a) : valV (nodeKvs lrs ls ls.length) [.inr (S nm), .inl (a : Int)] = none := by
  unfold valV
  rw [List.find?_eq_none.mpr]
  · rfl
  · intro kv hkv
    obtain ⟨i, hi, hk⟩ := List.mem_flatMap.mp hkv
    obtain ⟨j, hj, rfl⟩ := List.mem_map.mp hk
    simp only [decide_eq_true_eq]
    intro e
    have e1 : (Sum.inr (S (lnth ls i).name) : Key) = .inr (S nm) := (List.cons.inj e).1
    have e2 : (Sum.inl ((nth (lnth ls i).nodes j).at_ : Int) : Key) = .inl (a : Int) := (List.cons.inj (List.cons.inj e).2).1
    exact h i (List.mem_range.mp hi) (S_inj (Sum.inr.inj e1)) j (List.mem_range.mp hj) (Int.ofNat.inj (Sum.inl.inj e2))
def plD (nm : Wd) (a : Nat) : PyData := .tuple [.str (S nm), .int (a : Int)]
def opD (nm : Wd) : Option Nat → PyData
  | none => .none
  | some a => plD nm a
def tD (nm : Wd) (t : Told) : PyData := .tuple [.str (S t.sign), .tuple (t.inner.map (plD nm)), opD nm t.around, opD nm t.bound]
def enD (nm : Wd) (e : Nat × Told) : Xr.DEnt := ([.inr (S nm), .inl (e.1 : Int)], tD nm e.2)
theorem shows_even : ((List.range 100).all fun n => (evenE n).all fun e => Xr.showOk (tD EVN e.2)) = true := by decide +kernel
theorem shows_odd : ((List.range 100).all fun m => (oddE m).all fun e => Xr.showOk (tD ODD e.2)) = true := by decide +kernel
theorem shows_run : (runE.all fun e => Xr.showOk (tD RUN e.2)) = true := by decide +kernel
end K6
set_option Elab.async false
set_option linter.all false
set_option maxRecDepth 100000
set_option maxHeartbeats 4000000
namespace K6
open PySem PySem.Spec PyProof.Rows L2 Evl Xl SX Mi K5 Xr
theorem extN_of {H H' : Hp} (e : Ex H H') : LamX.ExtN H H' := fun b o h _ => e b o h
theorem nds_n {C : Addr} {nm : V} {rs : List Rec} {ns : List Nd} {H H' : Hp} (h : Nds C nm rs ns H) (e : LamX.ExtN H H') : Nds C nm rs ns H' :=
  ⟨h.len, fun i hi => ⟨e _ _ (h.at_ i hi).ins fun _ z => (by cases z), e _ _ (h.at_ i hi).tup fun _ z => (by cases z), e _ _ (h.at_ i hi).win fun _ z => by cases z⟩, h.ia, h.iw⟩
theorem line_n {CL C : Addr} {H H' : Hp} {r : LRec} {l : Ln} (h : LineAt CL C H r l) (e : LamX.ExtN H H') : LineAt CL C H' r l :=
  ⟨e _ _ h.ins fun _ z => (by cases z), nds_n h.nds e, e _ _ h.nl fun _ z => (by cases z), e _ _ h.nm fun _ z => (by cases z), h.bd⟩
theorem lns_n {CL C : Addr} {lrs : List LRec} {ls : List Ln} {H H' : Hp} (h : Lns CL C lrs ls H) (e : LamX.ExtN H H') : Lns CL C lrs ls H' := ⟨h.len, fun i hi => line_n (h.at_ i hi) e⟩
/-- a program at p, as the law sees it -/
structure PF (CP CL C p : Addr) (text : Wd) (ls : List Ln) (lrs : List LRec) (dl tp dn tl tb dx : Addr) (bs : List Addr) (H : Hp) : Prop where
  ins : H p = some (.ins CP dx (prF text dl tp dn tl tb))
  dn_ : H dn = some (.dT (nodeKvs lrs ls ls.length))
  dl_ : H dl = some (.dK (lineKvs ls))
  tp_ : H tp = some (.tup ((ls.dropLast.map (·.name)).map fun x => .str (S x)))
  tb_ : H tb = some (.tup (bs.map V.ref))
  bs_ : TupsK H bs (bindKeys lrs ls BWS (nodeTab lrs ls ls.length).length)
  lns : Lns CL C lrs ls H
  nd : (ls.map (·.name)).Nodup
  at_ : ∀ l ∈ ls, AtsApart l
section
variable {K : PySem.W.Frag} {CP CL C CE p t : Addr} {text : Wd} {ls : List Ln} {lrs : List LRec} {dl tp dn tl tb dx : Addr} {bs : List Addr} {H H' : Hp} {σ : L2.St} {ip it i j : Nat} {nm : Wd} {a : Nat} {mg : Str → Option Value}
theorem PF.n (F : PF CP CL C p text ls lrs dl tp dn tl tb dx bs H) (e : LamX.ExtN H H') : PF CP CL C p text ls lrs dl tp dn tl tb dx bs H' :=
  ⟨e _ _ F.ins fun _ z => (by cases z), e _ _ F.dn_ fun _ z => (by cases z), e _ _ F.dl_ fun _ z => (by cases z), e _ _ F.tp_ fun _ z => (by cases z), e _ _ F.tb_ fun _ z => (by cases z), F.bs_.of fun c xs hc => e _ _ hc fun _ z => (by cases z), lns_n F.lns e, F.nd, F.at_⟩
theorem PF.ex (F : PF CP CL C p text ls lrs dl tp dn tl tb dx bs H) (e : Ex H H') : PF CP CL C p text ls lrs dl tp dn tl tb dx bs H' := F.n (extN_of e)
theorem pf_of (h : ProgAt CP CL C H p dx text ls) (hr : readProg text = .ok ls) : ∃ lrs dl tp dn tl tb bs, PF CP CL C p text ls lrs dl tp dn tl tb dx bs H := by
  obtain ⟨lrs, dl, tp, dn, tl, tb, ps, bs, h1, h2, h3, h4, h5, h6, h7, h8, h9⟩ := h
  obtain ⟨f1, f2⟩ := readProg_facts hr
  exact ⟨lrs, dl, tp, dn, tl, tb, bs, h1, h5, h3, h4, h8, h9, h2, f1, f2⟩
def kyD : Key → PyData
  | .inl i => .int i
  | .inr x => .str x
theorem dp_ky {k : Key} : Dp K H (kV k) (kyD k) := by cases k with | inl i => exact .int i | inr x => exact .str x
theorem dps_kys : ∀ {ks : List Key}, DpAll K H (ks.map kV) (ks.map kyD)
  | [] => .nil
  | k :: ks => .cons dp_ky dps_kys
def keyD (k : List Key) : PyData := .tuple (k.map kyD)
theorem dp_key {k : List Key} {t : Addr} (h : H t = some (.tup (k.map kV))) : Dp K H (.ref t) (keyD k) := .tup (st_of h) dps_kys
theorem dps_keys : ∀ {ts : List Addr} {ks : List (List Key)}, TupsK H ts ks → DpAll K H (ts.map V.ref) (ks.map keyD)
  | [], [], _ => .nil
  | t :: ts, k :: ks, h => .cons (dp_key h.1) (dps_keys h.2)
  | [], _ :: _, h => h.elim
  | _ :: _, [], h => h.elim
theorem dps_strs : ∀ {xs : List Wd}, DpAll K H (xs.map fun x => V.str (S x)) (xs.map fun x => PyData.str (S x))
  | [] => .nil
  | x :: xs => .cons (.str _) dps_strs
theorem PF.parts (F : PF CP CL C p text ls lrs dl tp dn tl tb dx bs H) : Dp K H (.ref tp) (.tuple ((ls.dropLast.map (·.name)).map fun x => .str (S x))) := .tup (st_of F.tp_) dps_strs
theorem PF.binds (F : PF CP CL C p text ls lrs dl tp dn tl tb dx bs H) : Dp K H (.ref tb) (.tuple ((bindKeys lrs ls BWS (nodeTab lrs ls ls.length).length).map keyD)) := .tup (st_of F.tb_) (dps_keys F.bs_)
theorem dp_pl {r : Addr} (h : H r = some (.tup [.str (S nm), .int (a : Int)])) : Dp K H (.ref r) (plD nm a) := dp_key (k := [.inr (S nm), .inl (a : Int)]) h
theorem PF.ask (F : PF CP CL C p text ls lrs dl tp dn tl tb dx bs H) (ht : H t = some (.tup [.str (S nm), .int (a : Int)])) : AskAt CP H p t [.inr (S nm), .inl (a : Int)] (nodeKvs lrs ls ls.length) :=
  ⟨dx, dn, S nm, a, prF text dl tp dn tl tb, rfl, ht, F.ins, rfl, rfl, F.dn_⟩
structure Spot (ls : List Ln) (nm : Wd) (a i j : Nat) : Prop where
  hi : i < ls.length
  hj : j < (lnth ls i).nodes.length
  nm_ : (lnth ls i).name = nm
  at_ : (nth (lnth ls i).nodes j).at_ = a
  win : within_ok (lnth ls i).nodes = true
theorem Spot.val (s : Spot ls nm a i j) (F : PF CP CL C p text ls lrs dl tp dn tl tb dx bs H) : valV (nodeKvs lrs ls ls.length) [.inr (S nm), .inl (a : Int)] = some (.ref (R (LR lrs i).rs j).a) := by
  have := val_there (lrs := lrs) F.nd F.at_ s.hi s.hj
  rw [s.nm_, s.at_] at this
  exact this
theorem Spot.node (s : Spot ls nm a i j) (F : PF CP CL C p text ls lrs dl tp dn tl tb dx bs H) {k : Nat} (hk : k < (lnth ls i).nodes.length) : NodeAt C (.str (S nm)) (LR lrs i).rs H (R (LR lrs i).rs k) (nth (lnth ls i).nodes k) := by
  have := (F.lns.at_ i s.hi).nds.at_ k hk
  rw [s.nm_] at this
  exact this
theorem Spot.ins_ok (s : Spot ls nm a i j) : ((∀ k ∈ (nth (lnth ls i).nodes j).within, k < (lnth ls i).nodes.length) ∧ (nth (lnth ls i).nodes j).within.length ≤ 3) ∧ (∀ k, (nth (lnth ls i).nodes j).outer = some k → k < (lnth ls i).nodes.length) ∧ ∀ k, (nth (lnth ls i).nodes j).binder = some k → k < (lnth ls i).nodes.length := by
  have h := s.win
  unfold within_ok at h
  rw [List.all_eq_true] at h
  have h1 := h j (List.mem_range.mpr s.hj)
  simp only [Bool.and_eq_true, List.all_eq_true, decide_eq_true_eq] at h1
  obtain ⟨⟨⟨h2, h3⟩, h4⟩, h5⟩ := h1
  refine ⟨⟨h2, h5⟩, fun k hk => ?_, fun k hk => ?_⟩
  · rw [hk] at h3; simpa using h3
  · rw [hk] at h4; simpa using h4
theorem evd_word (F : PF CP CL C p text ls lrs dl tp dn tl tb dx bs H) (hp : σ[ip]? = some (some (.ref p))) (hq : σ[it]? = some (some (.ref t))) (ht : H t = some (.tup [.str (S nm), .int (a : Int)])) (s : Spot ls nm a i j) : EvD K (tMeth CP "word" (spWd CP CE C) [] C8.E0 (tVar ip) (tCons (tVar it) tNil)) σ H (.str (S (nth (lnth ls i).nodes j).sign)) := fun H1 e Q q => by
  have F1 := F.ex e
  refine ⟨_, hp, p, dx, _, rfl, F1.ins, rfl, _, hq, p, t, _, _, rfl, F1.ask (e _ _ ht), fun v hv => ?_, fun hv => ?_⟩
  · rw [s.val F1] at hv
    cases hv
    exact ⟨_, _, _, _, rfl, (s.node F1 s.hj).ins, rfl, fun H2 e2 => q _ H2 e2 (.str _)⟩
  · rw [s.val F1] at hv
    cases hv
theorem one_of (s : Spot ls nm a i j) (F : PF CP CL C p text ls lrs dl tp dn tl tb dx bs H) {o : Option Nat} (ho : ∀ k, o = some k → k < (lnth ls i).nodes.length) : ∃ r, PlaceOf C H (oref (LR lrs i).rs o) r ∧ Dp K H r (opD nm (o.map fun k => (nth (lnth ls i).nodes k).at_)) := by
  cases o with
  | none => exact ⟨.non, .inl ⟨rfl, rfl⟩, .non⟩
  | some k =>
    have nk := s.node F (ho k rfl)
    exact ⟨_, .inr ⟨_, _, _, rfl, nk.ins, rfl⟩, dp_pl nk.tup⟩
theorem evd_around (F : PF CP CL C p text ls lrs dl tp dn tl tb dx bs H) (hp : σ[ip]? = some (some (.ref p))) (hq : σ[it]? = some (some (.ref t))) (ht : H t = some (.tup [.str (S nm), .int (a : Int)])) (s : Spot ls nm a i j) : EvD K (tMeth CP "around" (spOne "outer" CP CE C) [] C8.E0 (tVar ip) (tCons (tVar it) tNil)) σ H (opD nm ((nth (lnth ls i).nodes j).outer.map fun k => (nth (lnth ls i).nodes k).at_)) := fun H1 e Q q => by
  have F1 := F.ex e
  refine ⟨_, hp, p, dx, _, rfl, F1.ins, rfl, _, hq, p, t, _, _, rfl, F1.ask (e _ _ ht), fun v hv => ?_, fun hv => ?_⟩
  · rw [s.val F1] at hv
    cases hv
    obtain ⟨r, h1, h2⟩ := one_of (K := K) s F1 s.ins_ok.2.1
    exact ⟨_, _, _, _, r, rfl, (s.node F1 s.hj).ins, rfl, h1, fun H2 e2 => q _ H2 e2 (dp_lt (LT.of e2) _ _ h2)⟩
  · rw [s.val F1] at hv
    cases hv
theorem evd_bound (F : PF CP CL C p text ls lrs dl tp dn tl tb dx bs H) (hp : σ[ip]? = some (some (.ref p))) (hq : σ[it]? = some (some (.ref t))) (ht : H t = some (.tup [.str (S nm), .int (a : Int)])) (s : Spot ls nm a i j) : EvD K (tMeth CP "bound" (spOne "binder" CP CE C) [] C8.E0 (tVar ip) (tCons (tVar it) tNil)) σ H (opD nm ((nth (lnth ls i).nodes j).binder.map fun k => (nth (lnth ls i).nodes k).at_)) := fun H1 e Q q => by
  have F1 := F.ex e
  refine ⟨_, hp, p, dx, _, rfl, F1.ins, rfl, _, hq, p, t, _, _, rfl, F1.ask (e _ _ ht), fun v hv => ?_, fun hv => ?_⟩
  · rw [s.val F1] at hv
    cases hv
    obtain ⟨r, h1, h2⟩ := one_of (K := K) s F1 s.ins_ok.2.2
    exact ⟨_, _, _, _, r, rfl, (s.node F1 s.hj).ins, rfl, h1, fun H2 e2 => q _ H2 e2 (dp_lt (LT.of e2) _ _ h2)⟩
  · rw [s.val F1] at hv
    cases hv
theorem dps_within (s : Spot ls nm a i j) (F : PF CP CL C p text ls lrs dl tp dn tl tb dx bs H) : ∀ {ks : List Nat}, (∀ k ∈ ks, k < (lnth ls i).nodes.length) → DpAll K H ((ks.map fun k => (R (LR lrs i).rs k).t).map V.ref) ((ks.map fun k => (nth (lnth ls i).nodes k).at_).map (plD nm))
  | [], _ => .nil
  | k :: ks, h => .cons (dp_pl (s.node F (h k List.mem_cons_self)).tup) (dps_within s F fun m hm => h m (List.mem_cons_of_mem _ hm))
theorem evd_inner (F : PF CP CL C p text ls lrs dl tp dn tl tb dx bs H) (hp : σ[ip]? = some (some (.ref p))) (hq : σ[it]? = some (some (.ref t))) (ht : H t = some (.tup [.str (S nm), .int (a : Int)])) (s : Spot ls nm a i j) : EvD K (tMeth CP "inner" (spIn CP CE C) [] C8.E0 (tVar ip) (tCons (tVar it) tNil)) σ H (.tuple (((nth (lnth ls i).nodes j).within.map fun k => (nth (lnth ls i).nodes k).at_).map (plD nm))) := fun H1 e Q q => by
  have F1 := F.ex e
  refine ⟨_, hp, p, dx, _, rfl, F1.ins, rfl, _, hq, p, t, _, _, rfl, F1.ask (e _ _ ht), fun v hv => ?_, fun hv => ?_⟩
  · rw [s.val F1] at hv
    cases hv
    have nj := s.node F1 s.hj
    refine ⟨_, _, _, _, (nth (lnth ls i).nodes j).within.map fun k => (R (LR lrs i).rs k).a, (nth (lnth ls i).nodes j).within.map fun k => (R (LR lrs i).rs k).t, rfl, nj.ins, rfl, ?_, ?_, by rw [List.length_map, List.length_map], fun m x hx => ?_, fun r H2 e2 hr => ?_⟩
    · have := nj.win
      unfold refs at this
      rw [List.map_map]
      exact this
    · rw [List.length_map]
      have := s.ins_ok.1.2
      omega
    · rw [List.getElem?_map] at hx
      cases z : (nth (lnth ls i).nodes j).within[m]? with
      | none => rw [z] at hx; cases hx
      | some k =>
        rw [z] at hx
        cases hx
        have nk := s.node F1 (s.ins_ok.1.1 k (List.mem_of_getElem? z))
        exact ⟨_, _, (R (LR lrs i).rs k).t, by rw [List.getElem?_map, z]; rfl, nk.ins, rfl⟩
    · exact q _ H2 e2 (.tup (st_of hr) (dps_lt (LT.of e2) _ _ (dps_within s F1 s.ins_ok.1.1)))
  · rw [s.val F1] at hv
    cases hv
end
end K6
set_option Elab.async false
set_option linter.all false
set_option maxRecDepth 100000
set_option maxHeartbeats 4000000
namespace K6
open PySem PySem.Spec PyProof.Rows L2 Evl Xl SX Mi K5 Xr
structure NumB (K : PySem.W.Frag) (mg : Str → Option Value) (CS CE : Addr) : Prop where
  mgS : mg "UseError" = some (.ref CS)
  mgB : mg "BadPlace" = some (.ref CE)
  exm : PySem.W.exmOne K (.ref CE) (.ref CS) = some true
  kit1 : PySem.W.kitOne K (.ref CE) (.ref CE) = some true
  exc : ExcC K CE
  xf : XfC K CE
  noV : PySem.W.findIn K (.ref CE) "value" = some none
def qn : Str := "_law_right.<locals>.<lambda>"
theorem tabs_ex {T : List (Addr × Str)} {H H' : Hp} (t : LamX.Tabs T H) (e : Ex H H') : LamX.Tabs T H' := t.ext e
theorem tabs_keep {Pt : Addr} {q : Str} {p : Addr} {xs : List V} {H H' : Hp} (t : LamX.Tabs [(Pt, q)] H) (hp : H p = some (.lst xs)) (e : Keep (fun c => c = p) H H') : LamX.Tabs [(Pt, q)] H' := fun y hy => by
  obtain ⟨ps, h1, h2, h3⟩ := t y hy
  refine ⟨ps, e _ _ (fun z => by rw [z, hp] at h1; cases h1) h1, h2, fun pos cv hc => ?_⟩
  obtain ⟨c, e1, e2⟩ := h3 pos cv hc
  exact ⟨c, e1, e _ _ (fun z => by rw [z, hp] at e2; cases e2) e2⟩
def rCatS : R2 := fun x y H Q => ∃ i j, x = V.str i ∧ y = V.str j ∧ i.length + j.length ≤ PySem.sizeLine ∧ Q (V.str (i ++ j)) H
theorem rv_cat {a b : Wd} {H : Hp} (h : a.length + b.length ≤ 100000) : RV rCatS (.str (S a)) (.str (S b)) H (.str (S (a ++ b))) := fun H1 e Q q =>
  ⟨S a, S b, rfl, rfl, by rw [S_len, S_len, sizeLine_eq]; omega, by rw [S_cat]; exact q H1 (Ex.refl H1)⟩
section
variable {K : PySem.W.Frag} {σ : L2.St} {H : Hp} {te ta tb tl : TE} {d : PyData} {D : Ends} {tz : TS}
theorem ev_lit {z : Str} {x : Wd} (h : z = S x) : Ev (tC (.str z)) σ H (.str (S x)) := h ▸ ev_c
theorem ev_cat3 {a c : Str} {x y z : Wd} {i : Nat} (ha : a = S x) (hb : σ[i]? = some (some (.str (S y)))) (hc : c = S z) (hl : (x ++ y ++ z).length ≤ 100000) : Ev (tOp rCatS (tOp rCatS (tC (.str a)) (tVar i)) (tC (.str c))) σ H (.str (S (x ++ y ++ z))) :=
  ev_op (ev_op (ev_lit ha) (ev_var hb) (rv_cat (by rw [List.length_append, List.length_append] at hl; omega))) (ev_lit hc) (rv_cat (by rw [List.length_append] at hl; exact hl))
theorem q_asgR {te : TE} {i : Nat} (h : te σ H fun v H1 => tz D (σ.set i (some v)) H1) : tSeq (tAsg te (gName i)) tz D σ H := h
theorem q_asgD {i : Nat} (h : EvD K te σ H d) (k : ∀ v H1, Ex H H1 → Dp K H1 v d → tz D (σ.set i (some v)) H1) : tSeq (tAsg te (gName i)) tz D σ H := h H (Ex.refl H) _ k
theorem evd_prop {C a dx : Addr} {fs : List (Str × V)} {f : Str} {v : V} {E : XK} (h : Ev te σ H (.ref a)) (ha : H a = some (.ins C dx fs)) (hl : fs.lookup f = some v) (hd : Dp K H v d) : EvD K (tProp C (getSp C f) [] E te) σ H d := fun H1 e Q q =>
  h H1 e _ fun H2 e2 => ⟨a, dx, fs, rfl, (e.trans e2) _ _ ha, a, dx, fs, v, rfl, (e.trans e2) _ _ ha, hl, q v H2 e2 (dp_lt (LT.of (e.trans e2)) d v hd)⟩
theorem evd_dget {a : Addr} {y v : V} (h : Ev ta σ H (.ref a)) (hy : Ev tb σ H y) (hg : ∀ H1, Ex H H1 → DGet H1 a y (some v)) (hd : Dp K H v d) : EvD K (tDGet ta tb) σ H d := fun H1 e Q q =>
  h H1 e _ fun H2 e2 => hy H2 (e.trans e2) _ fun H3 e3 => ⟨a, v, rfl, hg H3 ((e.trans e2).trans e3), q v H3 (e2.trans e3) (dp_lt (LT.of ((e.trans e2).trans e3)) d v hd)⟩
theorem evd_list {xs : List V} {ds : List PyData} (h : EvL te σ H xs) (hd : DpAll K H xs ds) : EvD K te σ H (.list ds) := fun H1 e Q q => h H1 e _ fun p H2 _ e2 hx => q _ H2 e2 (.lst (sq_of hx) (dps_lt (LT.of (e.trans e2)) ds xs hd))
abbrev rJ (K : PySem.W.Frag) : V → List V → Hp → VK → Prop := fun x xs H Q => ∃ a p, ∃ ys : List Str, x = .str a ∧ xs = [.ref p] ∧ (SqL K H p (ys.map V.str) ∨ SqT K H p (ys.map V.str)) ∧ (ys.map (·.length)).sum + ys.length * a.length ≤ 16777216 ∧ Q (.str (Txt.join a ys)) H
theorem join3 {a b c : Wd} : Txt.join "\n" [S a, S b, S c] = S (text3 a b c) := by
  have l : (Str.ofString "\n" : Str) = S [10] := by decide
  rw [l, TL.join_eq]
  show S a ++ S [10] ++ (S b ++ S [10] ++ S c) = _
  rw [S_cat, S_cat, S_cat, S_cat]
  rfl
theorem join2 {a b : Wd} : Txt.join "\n" [S a, S b] = S (a ++ [10] ++ b) := by
  have l : (Str.ofString "\n" : Str) = S [10] := by decide
  rw [l, TL.join_eq]
  show S a ++ S [10] ++ S b = _
  rw [S_cat, S_cat]
theorem ev_join {p : Addr} {a b c : Wd} (h : Ev te σ H (.ref p)) (hp : H p = some (.lst [.str (S a), .str (S b), .str (S c)])) (hl : a.length + b.length + c.length ≤ 900) : Ev (tM1 (rJ K) (tC (.str (Str.ofString "\n"))) te) σ H (.str (S (text3 a b c))) := fun H1 e Q q =>
  ⟨⟨_, rfl⟩, h H1 e _ fun H2 e2 => ⟨_, p, [S a, S b, S c], rfl, rfl, .inl (sq_of ((e.trans e2) _ _ hp)), by
    have : (Str.ofString "\n" : Str).length = 1 := rfl
    simp only [List.map_cons, List.map_nil, List.sum_cons, List.sum_nil, List.length_cons, List.length_nil, S_len, this]
    omega, by rw [join3]; exact q H2 e2⟩⟩
theorem ev_joinL {a b c : Wd} (h : EvL te σ H [.str (S a), .str (S b), .str (S c)]) (hl : a.length + b.length + c.length ≤ 900) : Ev (tM1 (rJ K) (tC (.str (Str.ofString "\n"))) te) σ H (.str (S (text3 a b c))) := fun H1 e Q q =>
  ⟨⟨_, rfl⟩, h H1 e _ fun p H2 _ e2 hp => ⟨_, p, [S a, S b, S c], rfl, rfl, .inl (sq_of hp), by
    have : (Str.ofString "\n" : Str).length = 1 := rfl
    simp only [List.map_cons, List.map_nil, List.sum_cons, List.sum_nil, List.length_cons, List.length_nil, S_len, this]
    omega, by rw [join3]; exact q H2 e2⟩⟩
theorem dat_get {kvs : List (List Key × V)} {es : List DEnt} (h : DAt K H kvs es) : ∀ {i : Nat} {k : List Key} {v : V}, kvs[i]? = some (k, v) → ∃ e, es[i]? = some e ∧ k = e.1 ∧ Dp K H v e.2 := by
  unfold DAt at h
  induction h with
  | nil => intro i k v z; simp at z
  | @cons a b as bs h t ih =>
    intro i k v z
    cases i with
    | zero =>
      simp at z
      subst z
      exact ⟨b, rfl, h.1, h.2⟩
    | succ i =>
      simp at z
      obtain ⟨e, h1, h2⟩ := ih z
      exact ⟨e, by simpa using h1, h2⟩
def EvKs (ta : TA) (σ : L2.St) (H : Hp) (ks : List (List Key)) : Prop := ∀ H1, Ex H H1 → ∀ Q : List V → Hp → Prop, (∀ ts H2, Ex H1 H2 → TupsK H2 ts ks → Q (ts.map V.ref) H2) → ta σ H1 Q
theorem evks_nil : EvKs tNil σ H [] := fun H1 _ Q q => q [] H1 (Ex.refl H1) trivial
theorem evks_cons {tr : TA} {k : List Key} {ks : List (List Key)} (h : EvK te σ H k) (r : EvKs tr σ H ks) : EvKs (tCons te tr) σ H (k :: ks) := fun H1 e Q q =>
  h H1 e _ fun t H2 _ e2 ht => r H2 (e.trans e2) _ fun ts H3 e3 hts => q (t :: ts) H3 (e2.trans e3) ⟨e3 _ _ ht, hts⟩
theorem q_keys {ta : TA} {i : Nat} {ks : List (List Key)} (h : EvKs ta σ H ks) (hl : ks.length ≤ 1000) (k : ∀ q ts H1, Ex H H1 → H1 q = some (.lst (ts.map V.ref)) → TupsK H1 ts ks → tz D (σ.set i (some (.ref q))) H1) : tSeq (tAsg (tLst ta) (gName i)) tz D σ H :=
  h H (Ex.refl H) _ fun ts H1 e1 hts => ⟨by rw [List.length_map, hts.len, sizeLine_eq]; omega, fun q hq => k q ts _ (e1.trans (Ex.new hq)) upd_same (hts.of fun c xs hc => Ex.new hq _ _ hc)⟩
theorem tups_at : ∀ {ts : List Addr} {ks : List (List Key)} {i : Nat} {t : Addr}, TupsK H ts ks → ts[i]? = some t → ∃ k, ks[i]? = some k ∧ H t = some (.tup (k.map kV)) := by
  intro ts
  induction ts with
  | nil => intro ks i t _ h; simp at h
  | cons a r ih =>
    intro ks i t h hi
    cases ks with
    | nil => exact h.elim
    | cons k ks =>
      cases i with
      | zero => simp at hi; subst hi; exact ⟨k, rfl, h.1⟩
      | succ i =>
        simp at hi
        obtain ⟨k', h1, h2⟩ := ih h.2 hi
        exact ⟨k', by simpa using h1, h2⟩
theorem rv_own {CP a b dx dy : Addr} {fs gs : List (Str × V)} {s t : Str} {g : Bool → Bool} (ha : H a = some (.ins CP dx fs)) (hb : H b = some (.ins CP dy gs)) (hs : fs.lookup ("_text" : Str) = some (.str s)) (ht : gs.lookup ("_text" : Str) = some (.str t)) : RV (Xo.rOwn CP (spEqv CP) C8.E0 g) (.ref a) (.ref b) H (.bl (g (decide (s = t)))) := fun H1 e Q q =>
  ⟨a, b, dx, dy, fs, gs, rfl, rfl, e _ _ ha, e _ _ hb, a, b, dx, dy, fs, gs, s, t, rfl, e _ _ ha, e _ _ hb, hs, ht, fun H2 e2 => ⟨_, rfl, q H2 e2⟩⟩
theorem ev_isX {mg : Str → Option Value} {CS CE a dd : Addr} {fs : List (Str × V)} (U : NumB K mg CS CE) (h : Ev te σ H (.ref a)) (ha : H a = some (Xv.exv a (.ref CE) (some dd))) (hd : H dd = some (.xd fs)) : Ev (tCB (Xv.rIsV K) (tCons te (tCons (tC (.ref CE)) tNil))) σ H (.bl true) :=
  ev_cb (ea_cons h (ea_cons ev_c ea_nil)) fun H1 e1 Q q => ⟨.ref a, .ref CE, .ref CE, .ref CE, true, rfl, .own CE, .inr ⟨a, CE, dd, fs, rfl, rfl, e1 _ _ ha, e1 _ _ hd, U.exc⟩, U.kit1, q H1 (Ex.refl H1)⟩
theorem evd_xv {mg : Str → Option Value} {CS CE a dd : Addr} {v : V} (U : NumB K mg CS CE) (h : Ev te σ H (.ref a)) (ha : H a = some (Xv.exv a (.ref CE) (some dd))) (hd : H dd = some (.xd [("value", v)])) (hv : Dp K H v d) : EvD K (Xv.tXv K "value" te) σ H d := fun H1 e Q q =>
  h H1 e _ fun H2 e2 => ⟨a, CE, dd, _, v, rfl, (e.trans e2) _ _ ha, (e.trans e2) _ _ hd, U.xf, U.noV, rfl, q v H2 e2 (dp_lt (LT.of (e.trans e2)) d v hv)⟩
theorem line_val {ls : List Ln} (hn : (ls.map (·.name)).Nodup) {i : Nat} {l : Ln} (h : ls[i]? = some l) : valV (lineKvs ls) (.inr (S l.name)) = some (.str (S l.told)) := by
  have h1 : ((lineKvs ls).map (·.1)).Nodup := by
    unfold lineKvs
    rw [List.map_map]
    have e : ls.map ((fun x : Key × V => x.1) ∘ fun l : Ln => ((.inr (S l.name), .str (S l.told)) : Key × V)) = (ls.map (·.name)).map fun x => (Sum.inr (S x) : Key) := by rw [List.map_map]; rfl
    rw [e]
    exact List.Pairwise.map _ (fun a b hab z => hab (S_inj (Sum.inr.inj z))) hn
  exact valV_one (i := i) h1 (by unfold lineKvs; rw [List.getElem?_map, h]; rfl)
theorem el_lines {CP CL C CN p : Addr} {text : Wd} {ls : List Ln} {lrs : List LRec} {dl tp dn tl' tb' dx : Addr} {bs : List Addr} {ip j : Nat} {vs : List Nat} {nms tolds : List Wd} (F : PF CP CL C p text ls lrs dl tp dn tl' tb' dx bs H) (hl : EvU tl σ H (nms.map fun x => .str (S x)))
    (hw : ∀ y, wipe ((wipe σ vs).set j (some y)) vs = wipe σ vs) (hj : ∀ y, ((wipe σ vs).set j (some y))[j]? = some (some y)) (hp : ∀ y, ((wipe σ vs).set j (some y))[ip]? = some (some (.ref p))) (hlen : nms.length = tolds.length) (h1000 : tolds.length ≤ 1000)
    (hev : ∀ (i : Nat) nm, nms[i]? = some nm → ∃ ln, tolds[i]? = some ln ∧ valV (lineKvs ls) (.inr (S nm)) = some (.str (S ln))) : EvL (tLc (iTup K tl) (gName j) tYes (tMeth CP "line" (spLi CP CN) [] C8.E0 (tVar ip) (tCons (tVar j) tNil)) vs) σ H (tolds.map fun x => .str (S x)) := fun H0 e0 Q q =>
  hl H0 e0 _ fun t H1 ht0 e1 ht => ⟨t, rfl, ⟨_, st_of ht⟩, fun DL hDL => by
    refine comp_walk (body := fun x H' Nx => gName j x (wipe σ vs) H' fun σ2 H2 => wipe σ2 vs = wipe σ vs ∧ tYes σ2 H2 fun b H3 => if b = true then tMeth CP "line" (spLi CP CN) [] C8.E0 (tVar ip) (tCons (tVar j) tNil) σ2 H3 fun y H4 => ∃ acc, H4 DL = some (.lst acc) ∧ acc.length < sizeLine ∧ Nx (upd H4 DL (.lst (acc ++ [y]))) else Nx H3)
      (walk_tup (K := K) (a := t) (xs := nms.map fun x => .str (S x))) (fun i G' => Ex H1 G' ∧ G' DL = some (.lst ((tolds.take i).map fun x => .str (S x)))) ⟨ex_put hDL (Ex.refl H1), upd_same⟩ (fun i G' _ hq => st_of (hq.1 _ _ ht)) (fun i G' x G2 hi hq hy => ?_) (fun G' hq => ?_)
    · obtain ⟨rfl, hx⟩ := hy
      obtain ⟨eG, hd⟩ := hq
      rw [List.getElem?_map] at hx
      cases z : nms[i]? with
      | none => rw [z] at hx; cases hx
      | some nm =>
        rw [z] at hx
        obtain rfl : V.str (S nm) = x := Option.some.inj hx
        obtain ⟨ln, hln2, hv⟩ := hev i nm z
        have F1 := F.ex ((e0.trans e1).trans eG)
        refine ⟨hw _, ?_⟩
        refine ⟨_, hp _, p, dx, _, rfl, F1.ins, rfl, ?_⟩
        refine ⟨_, hj _, p, dx, dl, S nm, _, lineKvs ls, rfl, F1.ins, rfl, F1.dl_, fun v hv2 H5 e5 => ?_, fun z2 => by rw [hv] at z2; cases z2⟩
        rw [hv] at hv2
        cases hv2
        refine ⟨_, e5 _ _ hd, ?_, ex_put hDL (eG.trans e5), ?_⟩
        · rw [List.length_map, List.length_take, sizeLine_eq]; omega
        · rw [upd_same, List.take_add_one, hln2, List.map_append]
          rfl
    · obtain ⟨eG, hd⟩ := hq
      have lx : (nms.map fun x => V.str (S x)).length = tolds.length := by rw [List.length_map, hlen]
      rw [lx, List.take_length] at hd
      exact q DL G' (fresh_back e1 hDL) (e1.trans eG) hd⟩
end
theorem showOk_two {a b : Wd} (ha : (a.all fun c => decide (c < 256)) = true) (hb : (b.all fun c => decide (c < 256)) = true) (la : a.length ≤ 400) (lb : b.length ≤ 400) : showOk (.list [.str (S a), .str (S b)]) = true := by
  have big : ∀ {x : Wd}, (x.all fun c => decide (c < 256)) = true → ∀ c ∈ (S x).cps.toList, c < 16 ^ 8 := fun {x} h c hc => by
    have h1 := List.all_eq_true.mp h c (by simpa using hc)
    have h2 : c < 256 := of_decide_eq_true h1
    exact Nat.lt_trans h2 (by decide)
  have l1 := StrLaws.reprText_len (S a) (big ha)
  have l2 := StrLaws.reprText_len (S b) (big hb)
  rw [S_len a] at l1
  rw [S_len b] at l2
  have e : (PyData.list [.str (S a), .str (S b)]).shown.length = 1 + ((reprText (S a)).length + 2 + (reprText (S b)).length) + 1 := by
    rw [PyData.shown_list, PyData.shownAll_cons, PyData.shownAll_cons, PyData.shownAll_nil, PyData.shown_str, PyData.shown_str]
    show ((Str.ofString "[" ++ (reprText (S a) ++ Str.ofString ", " ++ reprText (S b))) ++ Str.ofString "]").length = _
    rw [strLen_append, strLen_append, strLen_append, strLen_append]
    rfl
  unfold showOk
  rw [e]
  have s1 : (PyData.list [.str (S a), .str (S b)]).showable = true := by simp [PyData.showable, PyData.showableAll]
  have s2 : (PyData.list [.str (S a), .str (S b)]).hasDict = false := by simp [PyData.hasDict, PyData.hasDictAll]
  have s3 : (PyData.list [.str (S a), .str (S b)]).depth ≤ 50 := by simp [PyData.depth, PyData.depthAll]
  rw [s1, s2, decide_eq_true s3, decide_eq_true (by omega)]
  rfl

section
variable {n m : Nat}
abbrev ls1 (n m : Nat) : List Ln := [evenL n, oddL m, runL]
abbrev ls2 (n m : Nat) : List Ln := [oddL m, evenL n, runL]
def E17 (n m : Nat) : List DEnt := (evenE n).map (enD EVN) ++ (oddE m).map (enD ODD) ++ runE.map (enD RUN)
def KEYS : List (List Key) := ([2, 4, 5, 6, 8, 9].map fun (a : Int) => [Sum.inr (S EVN), Sum.inl a]) ++ ([4, 7, 11, 16, 8].map fun (a : Int) => [Sum.inr (S ODD), Sum.inl a]) ++ ([1, 6, 10, 11, 17, 18].map fun (a : Int) => [Sum.inr (S RUN), Sum.inl a])
theorem keys_nd : KEYS.Nodup := by decide +kernel
theorem keys_take {k : Nat} : (KEYS.take k).Nodup := keys_nd.sublist (List.take_sublist _ _)
theorem spot_of {ls : List Ln} {i : Nat} {l : Ln} {w nm : Wd} {nms : List Wd} {es : List (Nat × Told)} {bk no : List Nat} (L : LineIs w l nm nms es bk no) (hl : ls[i]? = some l) {e : Nat × Told} (he : e ∈ es) : ∃ j, Spot ls nm e.1 i j ∧ toldOf (lnth ls i).nodes j = e.2 := by
  have hi : i < ls.length := by
    rcases Nat.lt_or_ge i ls.length with h | h
    · exact h
    · rw [List.getElem?_eq_none h] at hl; cases hl
  have hll : lnth ls i = l := by
    unfold lnth
    rw [List.getD_eq_getElem?_getD, hl]
    rfl
  have h := L.ents
  unfold entsOk at h
  rw [List.all_eq_true] at h
  obtain ⟨j, hj, h2⟩ := List.any_eq_true.mp (h e he)
  simp only [Bool.and_eq_true, decide_eq_true_eq] at h2
  refine ⟨j, ⟨hi, by rw [hll]; exact List.mem_range.mp hj, by rw [hll]; exact L.name, by rw [hll]; exact h2.1, by rw [hll]; exact L.win⟩, by rw [hll]; exact h2.2⟩
theorem e17_spot (hn : n < 100) (hm : m < 100) {e : DEnt} (he : e ∈ E17 n m) : ∃ (nm : Wd) (a i j : Nat), e.1 = [.inr (S nm), .inl (a : Int)] ∧ Spot (ls1 n m) nm a i j ∧ e.2 = tD nm (toldOf (lnth (ls1 n m) i).nodes j) ∧ showOk e.2 = true := by
  unfold E17 at he
  have se := List.all_eq_true.mp shows_even n (List.mem_range.mpr hn)
  have so := List.all_eq_true.mp shows_odd m (List.mem_range.mpr hm)
  rw [List.all_eq_true] at se so
  rcases List.mem_append.mp he with h | h
  · rcases List.mem_append.mp h with h | h
    · obtain ⟨x, hx, rfl⟩ := List.mem_map.mp h
      obtain ⟨j, h1, h2⟩ := spot_of (ls := ls1 n m) (i := 0) (even_is hn) rfl hx
      exact ⟨EVN, x.1, 0, j, rfl, h1, by rw [h2]; rfl, se x hx⟩
    · obtain ⟨x, hx, rfl⟩ := List.mem_map.mp h
      obtain ⟨j, h1, h2⟩ := spot_of (ls := ls1 n m) (i := 1) (odd_is hm) rfl hx
      exact ⟨ODD, x.1, 1, j, rfl, h1, by rw [h2]; rfl, so x hx⟩
  · obtain ⟨x, hx, rfl⟩ := List.mem_map.mp h
    obtain ⟨j, h1, h2⟩ := spot_of (ls := ls1 n m) (i := 2) run_is rfl hx
    exact ⟨RUN, x.1, 2, j, rfl, h1, by rw [h2]; rfl, List.all_eq_true.mp shows_run x hx⟩
def NONE : List (Wd × Nat) := [(EVN, 0), (EVN, 1), (EVN, 3), (ODD, 5), (RUN, 2), (RUN, 4), (RUN, 15), (RUN, 19), (EVN, 12), (ODD, 17)]
theorem none_at (hn : n < 100) (hm : m < 100) {lrs : List LRec} {x : Wd × Nat} (hx : x ∈ NONE) : valV (nodeKvs lrs (ls1 n m) (ls1 n m).length) [.inr (S x.1), .inl (x.2 : Int)] = none := by
  refine val_none fun i hi hnm j hj hat => ?_
  have E := even_is hn
  have O := odd_is hm
  have R := run_is
  have key : ∀ {l : Ln} {w nm : Wd} {nms : List Wd} {es : List (Nat × Told)} {bk no : List Nat}, LineIs w l nm nms es bk no → lnth (ls1 n m) i = l → nm = x.1 ∧ x.2 ∉ no := fun {l w nm nms es bk no} L hl => by
    rw [hl] at hnm hj hat
    exact ⟨L.name.symm.trans hnm, fun z => L.no_ x.2 z j hj hat⟩
  have hi3 : i = 0 ∨ i = 1 ∨ i = 2 := by simp at hi; omega
  have hx2 : (x.1 = EVN ∧ x.2 ∈ [0, 1, 3, 12]) ∨ (x.1 = ODD ∧ x.2 ∈ [5, 17]) ∨ (x.1 = RUN ∧ x.2 ∈ [2, 4, 15, 19]) := by
    have : ∀ y ∈ NONE, (y.1 = EVN ∧ y.2 ∈ [0, 1, 3, 12]) ∨ (y.1 = ODD ∧ y.2 ∈ [5, 17]) ∨ (y.1 = RUN ∧ y.2 ∈ [2, 4, 15, 19]) := by decide
    exact this x hx
  have eo : EVN ≠ ODD := by decide
  have er : EVN ≠ RUN := by decide
  have orr : ODD ≠ RUN := by decide
  rcases hi3 with rfl | rfl | rfl
  · obtain ⟨k1, k2⟩ := key E rfl
    rcases hx2 with ⟨a, b⟩ | ⟨a, b⟩ | ⟨a, b⟩
    · exact k2 b
    · exact eo (k1.trans a)
    · exact er (k1.trans a)
  · obtain ⟨k1, k2⟩ := key O rfl
    rcases hx2 with ⟨a, b⟩ | ⟨a, b⟩ | ⟨a, b⟩
    · exact eo (k1.trans a).symm
    · exact k2 b
    · exact orr (k1.trans a)
  · obtain ⟨k1, k2⟩ := key R rfl
    rcases hx2 with ⟨a, b⟩ | ⟨a, b⟩ | ⟨a, b⟩
    · exact er (k1.trans a).symm
    · exact orr (k1.trans a).symm
    · exact k2 b
theorem shows_none : (NONE.all fun x => showOk (plD x.1 x.2)) = true := by decide +kernel
/-- the data of the first comparison -/
def D4 : PyData := .tuple [.tuple [.str (S EVN), .str (S ODD)], .tuple [plD EVN 7, plD ODD 4, plD ODD 6, plD ODD 13, plD RUN 1, plD RUN 5, plD RUN 8, plD RUN 9, plD RUN 12]]
theorem shows_D4 : showOk D4 = true := by decide +kernel
theorem binds_are (hn : n < 100) (hm : m < 100) {lrs : List LRec} : (bindKeys lrs (ls1 n m) BWS (nodeTab lrs (ls1 n m) (ls1 n m).length).length).map keyD = [plD EVN 7, plD ODD 4, plD ODD 6, plD ODD 13, plD RUN 1, plD RUN 5, plD RUN 8, plD RUN 9, plD RUN 12] := by
  rw [bind_keys]
  have E := even_is hn
  have O := odd_is hm
  have R := run_is
  show ((List.range 3).flatMap fun i => bkKeys (lnth (ls1 n m) i)).map keyD = _
  have r3 : List.range 3 = [0, 1, 2] := rfl
  rw [r3]
  show ((bkKeys (evenL n) ++ (bkKeys (oddL m) ++ (bkKeys runL ++ [])))).map keyD = _
  unfold bkKeys
  rw [E.bk_, O.bk_, R.bk_, E.name, O.name, R.name]
  rfl
theorem parts1 (hn : n < 100) (hm : m < 100) : ((ls1 n m).dropLast.map (·.name)) = [EVN, ODD] := by
  show [(evenL n).name, (oddL m).name] = _
  rw [(even_is hn).name, (odd_is hm).name]
theorem parts2 (hn : n < 100) (hm : m < 100) : ((ls2 n m).dropLast.map (·.name)) = [ODD, EVN] := by
  show [(oddL m).name, (evenL n).name] = _
  rw [(even_is hn).name, (odd_is hm).name]
theorem texts_apart : text3 (oddW m) (evenW n) runW ≠ text3 (evenW n) (oddW m) runW := fun h => by
  have := congrArg (fun l : List Nat => l.getD 5 0) h
  simp [text3, evenW, oddW] at this
def DO : PyData := .tuple [.str (S ODD), .str (S EVN)]
theorem shows_DO : showOk DO = true := by decide +kernel
def DL (m : Nat) : PyData := .list [.str (S (oddW m)), .str (S runW)]
theorem odd_small : ((List.range 100).all fun m => (oddW m).all fun c => decide (c < 256)) = true := by decide +kernel
theorem shows_DL (hm : m < 100) : showOk (DL m) = true := showOk_two (List.all_eq_true.mp odd_small m (List.mem_range.mpr hm)) (by decide) (Nat.le_trans (odd_is hm).len (by decide)) (by decide)
end
end K6
set_option Elab.async false
set_option linter.all false
set_option maxRecDepth 100000
set_option maxHeartbeats 4000000
namespace K6
open PySem PySem.Spec PyProof.Rows L2 Evl Xl SX Mi K5 Xr
abbrev nR : List Str := ["pot", "one", "other", "lines", "due", "told", "names", "caught", "again", "far", "place", "program", "name"]
theorem scR : FnScope nR ["pot"] (C8.fnScope (top 44)) := C8.fnScope_by (by decide +kernel)
theorem scCa : FnScope ["call", "act", "caught"] ["call"] (C8.fnScope (top 43)) := C8.fnScope_by (by decide +kernel)
theorem lt1 : (Str.ofString "part even fun n pick n " : Str) = S [112, 97, 114, 116, 32, 101, 118, 101, 110, 32, 102, 117, 110, 32, 110, 32, 112, 105, 99, 107, 32, 110, 32] := by decide
theorem lt2 : (Str.ofString " call odd plus n -1" : Str) = S [32, 99, 97, 108, 108, 32, 111, 100, 100, 32, 112, 108, 117, 115, 32, 110, 32, 45, 49] := by decide
theorem lt3 : (Str.ofString "part odd fun n let n pair n " : Str) = S [112, 97, 114, 116, 32, 111, 100, 100, 32, 102, 117, 110, 32, 110, 32, 108, 101, 116, 32, 110, 32, 112, 97, 105, 114, 32, 110, 32] := by decide
theorem lt4 : (Str.ofString " pick first n 0 call even second n" : Str) = S [32, 112, 105, 99, 107, 32, 102, 105, 114, 115, 116, 32, 110, 32, 48, 32, 99, 97, 108, 108, 32, 101, 118, 101, 110, 32, 115, 101, 99, 111, 110, 100, 32, 110] := by decide
theorem lt5 : (Str.ofString "run let even2 fun odd2 call odd2 2 pair call even2 even call even2 fun x plus x x" : Str) = S runW := by decide
theorem lg : ∀ r : Nat, r < 100 → ((r : Int)).natAbs.log2 < 1920 := by decide +kernel
theorem lg2 : ∀ r : Nat, r < 100 → ((r : Int) - 99).natAbs.log2 < 1920 := by decide +kernel
section
variable {P : Program} {w : World} {K : PySem.W.Frag} {mg : Str → Option Value} {base : Heap} {f : Addr}
def spRight (Pt : Addr) : Sp := fun vs H Q _ => ∃ (p : Addr) (o m : Int), vs = [.ref p] ∧ LamX.Tabs [(Pt, qn)] H ∧ H p = some (.lst [.int o, .int m, .int 0]) ∧ 0 ≤ o ∧ 0 ≤ m ∧ m < 2305843009213693921 ∧ ∀ H', Q (.bl true) H'
theorem ok_right {c Pt CS CE CN CB CP CL C fg pP fP pB fPb fW fI fA fB fL fQ fCa : Addr} {fdg fdP fdPb fdW fdI fdA fdB fdL fdQ : FuncData} {oc dV kV doc pm ct : Value} {od an : Option Addr} {osl : Array (Option Value)} {oc2 dV2 kV2 doc2 pm2 ct2 cd2 : Value} {od2 an2 : Option Addr} {osl2 : Array (Option Value)}
    (lk : K.lookup f = some ⟨oc, od, .func (PySem.W.fnOf "_law_right" "_law_right" (C8.fnArgs (top 44)) (C8.fnBody (top 44)) (C8.fnScope (top 44)) dV kV doc pm an (.ref c) ct), osl⟩) (hcd : PySem.W.codeIn K (.ref c) "_law_right" = true) (TB : LamX.TabB base mg c Pt)
    (lkCa : K.lookup fCa = some ⟨oc2, od2, .func (PySem.W.fnOf "_law_caught" "_law_caught" (C8.fnArgs (top 43)) (C8.fnBody (top 43)) (C8.fnScope (top 43)) dV2 kV2 doc2 pm2 an2 cd2 ct2), osl2⟩) (cdCa : PySem.W.codeIn K cd2 "_law_caught" = true) (mCa : mg "_law_caught" = some (.ref fCa)) (kCa : PySem.W.keepIn K (.ref fCa) = true)
    (bCa : Binds K (PySem.W.fnOf "_law_caught" "_law_caught" (C8.fnArgs (top 43)) (C8.fnBody (top 43)) (C8.fnScope (top 43)) dV2 kV2 doc2 pm2 an2 cd2 ct2) ["call"] [])
    (T : Txt3 K w mg) (isi_ : mg "isinstance" = none) (U : NumB K mg CS CE) (G : ProgC K mg CP) (IS : IsC K CP) (cTk : C8.Cal P w K mg base 1 "_law_take" spTake [])
    (MP : Mk K CP fg) (FG : FnOk P w K mg base (L2.CX P w) 7 fg fdg ["self", "text"] (spPrX K CB CP CL C)) (bG : Binds K fdg ["self", "text"] [])
    (PPp : PropOf K CP "parts" pP fP) (FPp : FnOk P w K mg base C8.CX0 1 fP fdP ["self"] (getSp CP "_parts")) (bPp : Binds K fdP ["self"] [])
    (PPb : PropOf K CP "bindings" pB fPb) (FPb : FnOk P w K mg base C8.CX0 1 fPb fdPb ["self"] (getSp CP "_bindings")) (bPb : Binds K fdPb ["self"] [])
    (MW : Meth K CP "word" fW) (FW : FnOk P w K mg base (L2.CX P w) 4 fW fdW ["self", "place"] (spWd CP CE C)) (bW : Binds K fdW ["self", "place"] [])
    (MI : Meth K CP "inner" fI) (FI : FnOk P w K mg base (L2.CX P w) 4 fI fdI ["self", "place"] (spIn CP CE C)) (bI : Binds K fdI ["self", "place"] [])
    (MA : Meth K CP "around" fA) (FA : FnOk P w K mg base (L2.CX P w) 4 fA fdA ["self", "place"] (spOne "outer" CP CE C)) (bA : Binds K fdA ["self", "place"] [])
    (MB : Meth K CP "bound" fB) (FB : FnOk P w K mg base (L2.CX P w) 4 fB fdB ["self", "place"] (spOne "binder" CP CE C)) (bB : Binds K fdB ["self", "place"] [])
    (ML : Meth K CP "line" fL) (FL : FnOk P w K mg base (L2.CX P w) 3 fL fdL ["self", "name"] (spLi CP CN)) (bL : Binds K fdL ["self", "name"] [])
    (FQ : FnOk P w K mg base C8.CX0 1 fQ fdQ ["self", "other"] (spEqv CP)) (hQ : PySem.W.findIn K (.ref CP) "__eq__" = some (some (.ref fQ))) (hQf : PySem.W.isFn K (.ref fQ) = true) (bQ : Binds K fdQ ["self", "other"] []) (hNe : PySem.W.findIn K (.ref CP) "__ne__" = some (some (.builtin "object.__ne__")))
    (cPT : C8.Cal P w K mg base 4 "parts_text" (spPT CP) []) (cJ : C8.Cal P w K mg base 9 "joined_text" (spJT CP CL C) []) :
    Xg.FnG P w K mg base C8.CX0 10 f (PySem.W.fnOf "_law_right" "_law_right" (C8.fnArgs (top 44)) (C8.fnBody (top 44)) (C8.fnScope (top 44)) dV kV doc pm an (.ref c) ct) ["pot"] (spRight Pt) := by
  refine Xg.fnG_of lk hcd scR (fun h => by obtain ⟨p, o, m, rfl, _⟩ := h; rfl) fun A outer s H vs Q E hg hr h => ?_
  obtain ⟨p, o, m, rfl, hT, hp, ho, hm0, hm1, k⟩ := h
  have hu := hr.units
  have hu1 : (A.deeper (envOfC "_law_right" (C8.fnScope (top 44)) s.heap.objs.size f (.ref c))).units + 1 < cLine := by omega
  suffices z : ∃ t, PSs (cxOf C8.CX0 P w K mg base nR "_law_right" (C8.fnScope (top 44)) f (.ref c) A outer s H E).nox (C8.fnBody (top 44)) t ∧ t { nx := fun _ H' => Q .non H', rt := Q } (start nR [.ref p]) H by
    obtain ⟨t, h1, h2⟩ := z
    exact ⟨t, h1.nox, h2⟩
  refine ⟨_, (pss_cons (ps_par (i := 1) (j := 2) (by rfl) scR.nd rfl rfl (by decide) rfl rfl (pa_cons (pe_callTy call_str_int (by rfl) T.str_ (by decide +kernel) (pa_cons (C8.pe_c cTk hr (by decide) (by rfl) (pa_cons (pv 0) (pa_cons pe_int pa_nil))) pa_nil)) (pa_cons (pe_callTy call_str_int (by rfl) T.str_ (by decide +kernel) (pa_cons (pe_op op_sub (C8.pe_c cTk hr (by decide) (by rfl) (pa_cons (pv 0) (pa_cons pe_int pa_nil))) pe_int) pa_nil)) pa_nil)) (by rfl))
    (pss_cons (ps_set (i := 3) scR.nd rfl (Or.inl rfl) (pe_lst (pa_cons (pe_op op_add_str (pe_op op_add_str pe_str (pv 1)) pe_str) (pa_cons (pe_op op_add_str (pe_op op_add_str pe_str (pv 2)) pe_str) pa_nil))))
    (pss_cons (ps_expr (pe_bm PySem.F.plainAttrs_list PySem.F.slot_list_append PySem.F.type_list_append mt_append (pv 3) (pa_cons pe_str pa_nil)))
    (pss_cons (ps_set (i := 11) scR.nd rfl (Or.inr rfl) (pe_make (E := C8.E0) MP FG (hr.mono (by decide)) (by rfl) G.mgC bG .nil passX (pa_cons (pe_join pe_str (pv 3)) pa_nil)))
    (pss_cons (ps_if (pt_cmpR op_ne (pe_callB (Xt.call_repr_data hg hu) (by rfl) T.repr_ (by decide +kernel) (pa_cons (pe_tup (pa_cons (pe_prop (E := C8.E0) (pv 11) G.cl PPp FPp (hr.mono (by decide)) bPp .nil C8.pass0 (by rfl)) (pa_cons (pe_prop (E := C8.E0) (pv 11) G.cl PPb FPb (hr.mono (by decide)) bPb .nil C8.pass0 (by rfl)) pa_nil))) pa_nil)) (pe_callB (Xt.call_repr_data hg hu) (by rfl) T.repr_ (by decide +kernel) (pa_cons (pe_tup (pa_cons (pe_tup (pa_cons pe_str (pa_cons pe_str pa_nil))) (pa_cons (pe_tup (pa_cons (pe_tup (pa_cons pe_str (pa_cons pe_int pa_nil))) (pa_cons (pe_tup (pa_cons pe_str (pa_cons pe_int pa_nil))) (pa_cons (pe_tup (pa_cons pe_str (pa_cons pe_int pa_nil))) (pa_cons (pe_tup (pa_cons pe_str (pa_cons pe_int pa_nil))) (pa_cons (pe_tup (pa_cons pe_str (pa_cons pe_int pa_nil))) (pa_cons (pe_tup (pa_cons pe_str (pa_cons pe_int pa_nil))) (pa_cons (pe_tup (pa_cons pe_str (pa_cons pe_int pa_nil))) (pa_cons (pe_tup (pa_cons pe_str (pa_cons pe_int pa_nil))) (pa_cons (pe_tup (pa_cons pe_str (pa_cons pe_int pa_nil))) pa_nil)))))))))) pa_nil))) pa_nil)) (nomark _)) (pss_one (ps_ret pe_bl)) pss_nil)
    (pss_cons (ps_set (i := 4) scR.nd rfl (Or.inl rfl) (Xt.pe_dispT hr.units0 (pps_cons (pe_tup (pa_cons pe_str (pa_cons pe_int pa_nil))) (pe_tup (pa_cons pe_str (pa_cons (pe_tup (pa_cons (pe_tup (pa_cons pe_str (pa_cons pe_int pa_nil))) pa_nil)) (pa_cons pe_non (pa_cons pe_non pa_nil))))) (pps_cons (pe_tup (pa_cons pe_str (pa_cons pe_int pa_nil))) (pe_tup (pa_cons pe_str (pa_cons (pe_tup (pa_cons (pe_tup (pa_cons pe_str (pa_cons pe_int pa_nil))) (pa_cons (pe_tup (pa_cons pe_str (pa_cons pe_int pa_nil))) (pa_cons (pe_tup (pa_cons pe_str (pa_cons pe_int pa_nil))) pa_nil)))) (pa_cons (pe_tup (pa_cons pe_str (pa_cons pe_int pa_nil))) (pa_cons pe_non pa_nil))))) pps_nil)) (by rfl) (by rfl) (List.cons_ne_nil _ _) (by show 2 ≤ 15; decide)))
    (pss_cons (ps_expr (pe_bm PySem.F.plainAttrs_dict PySem.F.slot_dict_update PySem.F.type_dict_update (Xt.mt_update hu1) (pv 4) (pa_cons (Xt.pe_dispT hr.units0 (pps_cons (pe_tup (pa_cons pe_str (pa_cons pe_int pa_nil))) (pe_tup (pa_cons pe_str (pa_cons (pe_tup pa_nil) (pa_cons (pe_tup (pa_cons pe_str (pa_cons pe_int pa_nil))) (pa_cons (pe_tup (pa_cons pe_str (pa_cons pe_int pa_nil))) pa_nil))))) (pps_cons (pe_tup (pa_cons pe_str (pa_cons pe_int pa_nil))) (pe_tup (pa_cons (pv 1) (pa_cons (pe_tup pa_nil) (pa_cons (pe_tup (pa_cons pe_str (pa_cons pe_int pa_nil))) (pa_cons pe_non pa_nil))))) pps_nil)) (by rfl) (by rfl) (List.cons_ne_nil _ _) (by show 2 ≤ 15; decide)) pa_nil)))
    (pss_cons (ps_expr (pe_bm PySem.F.plainAttrs_dict PySem.F.slot_dict_update PySem.F.type_dict_update (Xt.mt_update hu1) (pv 4) (pa_cons (Xt.pe_dispT hr.units0 (pps_cons (pe_tup (pa_cons pe_str (pa_cons pe_int pa_nil))) (pe_tup (pa_cons pe_str (pa_cons (pe_tup pa_nil) (pa_cons (pe_tup (pa_cons pe_str (pa_cons pe_int pa_nil))) (pa_cons pe_non pa_nil))))) (pps_cons (pe_tup (pa_cons pe_str (pa_cons pe_int pa_nil))) (pe_tup (pa_cons pe_str (pa_cons (pe_tup (pa_cons (pe_tup (pa_cons pe_str (pa_cons pe_int pa_nil))) (pa_cons (pe_tup (pa_cons pe_str (pa_cons pe_int pa_nil))) pa_nil))) (pa_cons (pe_tup (pa_cons pe_str (pa_cons pe_int pa_nil))) (pa_cons pe_non pa_nil))))) pps_nil)) (by rfl) (by rfl) (List.cons_ne_nil _ _) (by show 2 ≤ 15; decide)) pa_nil)))
    (pss_cons (ps_expr (pe_bm PySem.F.plainAttrs_dict PySem.F.slot_dict_update PySem.F.type_dict_update (Xt.mt_update hu1) (pv 4) (pa_cons (Xt.pe_dispT hr.units0 (pps_cons (pe_tup (pa_cons pe_str (pa_cons pe_int pa_nil))) (pe_tup (pa_cons pe_str (pa_cons (pe_tup (pa_cons (pe_tup (pa_cons pe_str (pa_cons pe_int pa_nil))) (pa_cons (pe_tup (pa_cons pe_str (pa_cons pe_int pa_nil))) pa_nil))) (pa_cons (pe_tup (pa_cons pe_str (pa_cons pe_int pa_nil))) (pa_cons pe_non pa_nil))))) (pps_cons (pe_tup (pa_cons pe_str (pa_cons pe_int pa_nil))) (pe_tup (pa_cons pe_str (pa_cons (pe_tup pa_nil) (pa_cons (pe_tup (pa_cons pe_str (pa_cons pe_int pa_nil))) (pa_cons (pe_tup (pa_cons pe_str (pa_cons pe_int pa_nil))) pa_nil))))) pps_nil)) (by rfl) (by rfl) (List.cons_ne_nil _ _) (by show 2 ≤ 15; decide)) pa_nil)))
    (pss_cons (ps_expr (pe_bm PySem.F.plainAttrs_dict PySem.F.slot_dict_update PySem.F.type_dict_update (Xt.mt_update hu1) (pv 4) (pa_cons (Xt.pe_dispT hr.units0 (pps_cons (pe_tup (pa_cons pe_str (pa_cons pe_int pa_nil))) (pe_tup (pa_cons pe_str (pa_cons (pe_tup pa_nil) (pa_cons (pe_tup (pa_cons pe_str (pa_cons pe_int pa_nil))) (pa_cons (pe_tup (pa_cons pe_str (pa_cons pe_int pa_nil))) pa_nil))))) (pps_cons (pe_tup (pa_cons pe_str (pa_cons pe_int pa_nil))) (pe_tup (pa_cons pe_str (pa_cons (pe_tup pa_nil) (pa_cons (pe_tup (pa_cons pe_str (pa_cons pe_int pa_nil))) (pa_cons (pe_tup (pa_cons pe_str (pa_cons pe_int pa_nil))) pa_nil))))) (pps_cons (pe_tup (pa_cons pe_str (pa_cons pe_int pa_nil))) (pe_tup (pa_cons (pv 2) (pa_cons (pe_tup pa_nil) (pa_cons (pe_tup (pa_cons pe_str (pa_cons pe_int pa_nil))) (pa_cons pe_non pa_nil))))) pps_nil))) (by rfl) (by rfl) (List.cons_ne_nil _ _) (by show 3 ≤ 15; decide)) pa_nil)))
    (pss_cons (ps_expr (pe_bm PySem.F.plainAttrs_dict PySem.F.slot_dict_update PySem.F.type_dict_update (Xt.mt_update hu1) (pv 4) (pa_cons (Xt.pe_dispT hr.units0 (pps_cons (pe_tup (pa_cons pe_str (pa_cons pe_int pa_nil))) (pe_tup (pa_cons pe_str (pa_cons (pe_tup (pa_cons (pe_tup (pa_cons pe_str (pa_cons pe_int pa_nil))) (pa_cons (pe_tup (pa_cons pe_str (pa_cons pe_int pa_nil))) pa_nil))) (pa_cons pe_non (pa_cons pe_non pa_nil))))) (pps_cons (pe_tup (pa_cons pe_str (pa_cons pe_int pa_nil))) (pe_tup (pa_cons pe_str (pa_cons (pe_tup pa_nil) (pa_cons (pe_tup (pa_cons pe_str (pa_cons pe_int pa_nil))) (pa_cons (pe_tup (pa_cons pe_str (pa_cons pe_int pa_nil))) pa_nil))))) pps_nil)) (by rfl) (by rfl) (List.cons_ne_nil _ _) (by show 2 ≤ 15; decide)) pa_nil)))
    (pss_cons (ps_expr (pe_bm PySem.F.plainAttrs_dict PySem.F.slot_dict_update PySem.F.type_dict_update (Xt.mt_update hu1) (pv 4) (pa_cons (Xt.pe_dispT hr.units0 (pps_cons (pe_tup (pa_cons pe_str (pa_cons pe_int pa_nil))) (pe_tup (pa_cons pe_str (pa_cons (pe_tup pa_nil) (pa_cons (pe_tup (pa_cons pe_str (pa_cons pe_int pa_nil))) (pa_cons (pe_tup (pa_cons pe_str (pa_cons pe_int pa_nil))) pa_nil))))) (pps_cons (pe_tup (pa_cons pe_str (pa_cons pe_int pa_nil))) (pe_tup (pa_cons pe_str (pa_cons (pe_tup pa_nil) (pa_cons (pe_tup (pa_cons pe_str (pa_cons pe_int pa_nil))) (pa_cons pe_non pa_nil))))) pps_nil)) (by rfl) (by rfl) (List.cons_ne_nil _ _) (by show 2 ≤ 15; decide)) pa_nil)))
    (pss_cons (ps_expr (pe_bm PySem.F.plainAttrs_dict PySem.F.slot_dict_update PySem.F.type_dict_update (Xt.mt_update hu1) (pv 4) (pa_cons (Xt.pe_dispT hr.units0 (pps_cons (pe_tup (pa_cons pe_str (pa_cons pe_int pa_nil))) (pe_tup (pa_cons pe_str (pa_cons (pe_tup pa_nil) (pa_cons (pe_tup (pa_cons pe_str (pa_cons pe_int pa_nil))) (pa_cons (pe_tup (pa_cons pe_str (pa_cons pe_int pa_nil))) pa_nil))))) (pps_cons (pe_tup (pa_cons pe_str (pa_cons pe_int pa_nil))) (pe_tup (pa_cons pe_str (pa_cons (pe_tup pa_nil) (pa_cons (pe_tup (pa_cons pe_str (pa_cons pe_int pa_nil))) (pa_cons (pe_tup (pa_cons pe_str (pa_cons pe_int pa_nil))) pa_nil))))) pps_nil)) (by rfl) (by rfl) (List.cons_ne_nil _ _) (by show 2 ≤ 15; decide)) pa_nil)))
    (pss_cons (ps_lock (ps_for PassesOwn.never rfl (pi_keys (pv 4)) (pg_name (i := 10) scR.nd rfl (Or.inr rfl)) (pss_cons (ps_set (i := 5) scR.nd rfl (Or.inl rfl) (pe_tup (pa_cons (pe_meth (E := C8.E0) (pv 11) G.cl MW FW (hr.mono (by decide)) bW .nil passX (pa_cons (pv 10) pa_nil)) (pa_cons (pe_meth (E := C8.E0) (pv 11) G.cl MI FI (hr.mono (by decide)) bI .nil passX (pa_cons (pv 10) pa_nil)) (pa_cons (pe_meth (E := C8.E0) (pv 11) G.cl MA FA (hr.mono (by decide)) bA .nil passX (pa_cons (pv 10) pa_nil)) (pa_cons (pe_meth (E := C8.E0) (pv 11) G.cl MB FB (hr.mono (by decide)) bB .nil passX (pa_cons (pv 10) pa_nil)) pa_nil)))))) (pss_one (ps_if (pt_cmpR op_ne (pe_callB (Xt.call_repr_data hg hu) (by rfl) T.repr_ (by decide +kernel) (pa_cons (pv 5) pa_nil)) (pe_callB (Xt.call_repr_data hg hu) (by rfl) T.repr_ (by decide +kernel) (pa_cons (pe_dget hu1 (pv 4) (pv 10) (fun _ _ => rfl)) pa_nil)) (nomark _)) (pss_one (ps_ret pe_bl)) pss_nil)))))
    (pss_cons (ps_set (i := 6) scR.nd rfl (Or.inl rfl) (pe_lst (pa_cons (pe_tup (pa_cons pe_str (pa_cons pe_int pa_nil))) (pa_cons (pe_tup (pa_cons pe_str (pa_cons pe_int pa_nil))) (pa_cons (pe_tup (pa_cons pe_str (pa_cons pe_int pa_nil))) (pa_cons (pe_tup (pa_cons pe_str (pa_cons pe_int pa_nil))) (pa_cons (pe_tup (pa_cons pe_str (pa_cons pe_int pa_nil))) (pa_cons (pe_tup (pa_cons pe_str (pa_cons pe_int pa_nil))) (pa_cons (pe_tup (pa_cons pe_str (pa_cons pe_int pa_nil))) (pa_cons (pe_tup (pa_cons pe_str (pa_cons pe_int pa_nil))) (pa_cons (pe_tup (pa_cons pe_str (pa_cons pe_int pa_nil))) (pa_cons (pe_tup (pa_cons pe_str (pa_cons pe_int pa_nil))) pa_nil))))))))))))
    (pss_cons (ps_for PassesOwn.never rfl (pi_list (pv 6)) (pg_name (i := 10) scR.nd rfl (Or.inr rfl)) (pss_cons (ps_set (i := 7) scR.nd rfl (Or.inl rfl) (pe_ix ix_tup (LamX.pe_lamcall (T := [(Pt, qn)]) (TT := Xv.TTcaught K CS) (k := 4) (t := fun E => tMeth CP "word" (spWd CP CE C) [] E (tVar 11) (tCons (tVar 10) tNil)) (by rfl) mCa kCa lkCa cdCa bCa scCa rfl (.inl rfl)
      (Xv.caught_gives rfl rfl rfl rfl U.mgS) TB rfl (by first | exact List.mem_singleton.mpr (Prod.ext rfl (by rfl)) | decide) (fun p hp _ => by rw [List.mem_singleton.mp hp]; rfl) (hr.mono (by decide)) (LamX.lamS_by (by show LamX.lamSB (C8.fnScope (top 44)) _ = true; decide +kernel)) rfl (fun _ _ _ _ _ => rfl)
      (fun A outer s H E f c' hr2 => pe_meth (pv 11) G.cl MW FW hr2 bW .nil (fun pins σ H s e s' I h => passAt (takes_of rfl rfl rfl rfl) σ pins H s e s' I h) (pa_cons (pv 10) pa_nil))) pe_int (fun _ _ => rfl))) (pss_one (ps_if (pw_or (pt_not (pt_val (pe_callB Xv.call_isV (by rfl) isi_ (by decide +kernel) (pa_cons (pv 7) (pa_cons (pe_glob (v := .ref CE) (by rfl) U.mgB rfl) pa_nil))))) (pw_or1 (pt_cmpR op_ne (pe_callB (Xt.call_repr_data hg hu) (by rfl) T.repr_ (by decide +kernel) (pa_cons (Xv.pe_xv (pv 7)) pa_nil)) (pe_callB (Xt.call_repr_data hg hu) (by rfl) T.repr_ (by decide +kernel) (pa_cons (pv 10) pa_nil)) (nomark _)))).pt (pss_one (ps_ret pe_bl)) pss_nil))))
    (pss_cons (ps_set (i := 8) scR.nd rfl (Or.inl rfl) (C8.pe_c cJ hr (by decide) (by rfl) (pa_cons (C8.pe_c cPT hr (by decide) (by rfl) (pa_cons (pv 11) pa_nil)) (pa_cons (pe_slice sl_str (pe_ix ix_list (pv 3) pe_int (fun _ _ => rfl)) (po_some pe_int) po_none) pa_nil))))
    (pss_cons (ps_set (i := 9) scR.nd rfl (Or.inl rfl) (pe_make (E := C8.E0) MP FG (hr.mono (by decide)) (by rfl) G.mgC bG .nil passX (pa_cons (pe_join pe_str (pe_lst (pa_cons (pe_ix ix_list (pv 3) pe_int (fun _ _ => rfl)) (pa_cons (pe_ix ix_list (pv 3) pe_int (fun _ _ => rfl)) (pa_cons (pe_ix ix_list (pv 3) pe_int (fun _ _ => rfl)) pa_nil))))) pa_nil)))
    (pss_one (ps_ret (pe_and (pe_cmpR (Xo.op_eqO (E := C8.E0) FQ hQ hQf bQ C8.pass0 (hr.mono (by decide))) (pv 8) (pv 11) (nomark _)) (pe_and (pe_cmpR (Xo.op_neO (E := C8.E0) FQ hQ hQf IS.hm hNe bQ C8.pass0 (hr.mono (by decide))) (pv 9) (pv 11) (nomark _))
      (pe_and (pe_cmpR op_eq (pe_callB (Xt.call_repr_data hg hu) (by rfl) T.repr_ (by decide +kernel) (pa_cons (pe_prop (E := C8.E0) (pv 9) G.cl PPp FPp (hr.mono (by decide)) bPp .nil C8.pass0 (by rfl)) pa_nil)) (pe_callB (Xt.call_repr_data hg hu) (by rfl) T.repr_ (by decide +kernel) (pa_cons (pe_tup (pa_cons pe_str (pa_cons pe_str pa_nil))) pa_nil)) (nomark _)) (pe_one (pe_cmpR op_eq (pe_callB (Xt.call_repr_data hg hu) (by rfl) T.repr_ (by decide +kernel) (pa_cons (pe_lc (own := [("name", 12)]) (g := gName 12) (tt := tYes) (te := tMeth CP "line" (spLi CP CN) [] C8.E0 (tVar 11) (tCons (tVar 12) tNil)) rfl scR.nd (pi_tup (pe_tup (pa_cons pe_str (pa_cons pe_str pa_nil)))) (blkOk_by (N := nR) (sc := C8.fnScope (top 44)) (by decide +kernel))
      (fun _ _ _ _ _ => pg_name (i := 12) scR.nd rfl (Or.inl rfl)) (fun _ _ _ _ _ => pts_nil) (fun _ _ _ _ _ => pe_meth (pv 11) G.cl ML FL (hr.mono (by decide)) bL .nil passX (pa_cons (pv 12) pa_nil))) pa_nil)) (pe_callB (Xt.call_repr_data hg hu) (by rfl) T.repr_ (by decide +kernel) (pa_cons (pe_slice sl_list (pv 3) (po_some pe_int) po_none) pa_nil)) (nomark _)))))))))))))))))))))))))), ?_⟩
  -- one, other
  refine ⟨_, rfl, p, o, m, 0, rfl, hp, ho, hm0, hm1, by decide, by decide, fun r1 o1 c1 H1 hr1 K1 hp1 ho1 hc1 hc2 => ⟨_, rfl, ?_, ?_⟩⟩
  · exact lg r1 hr1
  refine ⟨_, rfl, p, o1, m, c1, rfl, hp1, ho1, hm0, hm1, hc1, by omega, fun r2 o2 c2 H2 hr2 K2 hp2 ho2 hc3 hc4 => ⟨_, _, rfl, rfl, ⟨_, rfl, ?_, ⟨_, _, rfl, ?_⟩⟩⟩⟩
  · exact lg2 r2 hr2
  rw [(num_is hr1).1, (num_is hr2).2]
  have hT2 := tabs_keep (tabs_keep hT hp K1) hp1 K2
  obtain ⟨n, hn, hne⟩ : ∃ n, n < 100 ∧ n = r1 := ⟨r1, hr1, rfl⟩
  obtain ⟨q, hq, hqe⟩ : ∃ q, q < 100 ∧ q = 99 - r2 := ⟨99 - r2, by omega, rfl⟩
  rw [← hne, ← hqe]
  have E := even_is hn
  have O := odd_is hq
  have R := run_is
  have le : (evenW n).length + (oddW q).length + runW.length ≤ 600 := by have := E.len; have := O.len; have := R.len; omega
  have rd := prog1 hn hq
  -- the lines
  refine q_asgL (xs := [.str (S (evenW n)), .str (S (oddW q))]) (el_lst (ea_cons (ev_cat3 lt1 rfl lt2 (Nat.le_trans E.len (by decide))) (ea_cons (ev_cat3 lt3 rfl lt4 (Nat.le_trans O.len (by decide))) ea_nil)) (by show 2 ≤ 100000; decide)) fun l H3 _ e3 hl3 => ?_
  refine q_app hl3 (ev_var rfl) (ev_lit (x := runW) lt5) (by show 2 < 100000; decide) fun H4 e4 => ?_
  have hT4 : LamX.Tabs [(Pt, qn)] (upd H4 l (.lst ([.str (S (evenW n)), .str (S (oddW q))] ++ [.str (S runW)]))) := tabs_keep (tabs_ex hT2 (e3.trans e4)) (e4 _ _ hl3) (Keep.put (T := fun c => c = l) (Keep.refl _ H4) rfl)
  have hl4 : (upd H4 l (.lst ([.str (S (evenW n)), .str (S (oddW q))] ++ [.str (S runW)]))) l = some (.lst [.str (S (evenW n)), .str (S (oddW q)), .str (S runW)]) := upd_same
  generalize upd H4 l (.lst ([.str (S (evenW n)), .str (S (oddW q))] ++ [.str (S runW)])) = G0 at hT4 hl4
  -- the program
  refine q_asgR (r_make (vs := [.str (S (text3 (evenW n) (oddW q) runW))]) (ea_cons (ev_join (K := K) (ev_var rfl) hl4 (Nat.le_trans le (by decide))) ea_nil) fun H5 e5 pr dx hpr hdx hne => ⟨pr, dx, _, rfl, upd_same, .inr ⟨text3 (evenW n) (oddW q) runW, rfl, by simp only [text3, List.length_append, List.length_cons, List.length_nil]; omega, (fun e he => by rw [rd] at he; cases he), fun ls' hls' H6 K6 hP => ⟨rfl, ?_⟩⟩⟩)
  rw [rd] at hls'
  cases hls'
  have e06 : Ex G0 H6 := fun c o hc => K6 c o (fun z => by rw [z, fresh_back e5 hpr] at hc; cases hc) (ex_put hpr (ex_put hdx (Ex.refl H5)) c o (e5 _ _ hc))
  obtain ⟨lrs, dl, tp, dn, tl, tb, bs, F⟩ := pf_of hP rd
  have hT6 := tabs_ex hT4 e06
  have hl6 := e06 _ _ hl4
  -- parts and bindings
  have hparts := F.parts (K := K)
  rw [parts1 hn hq] at hparts
  have hbinds := F.binds (K := K)
  rw [binds_are hn hq] at hbinds
  refine q_when (b := false) (et_same (d := D4) (evd_tup (evds_cons (evd_prop (ev_var rfl) F.ins rfl hparts) (evds_cons (evd_prop (ev_var rfl) F.ins rfl hbinds) evds_nil)) (by show 2 ≤ 1000; decide)) (by
    unfold D4
    repeat' first | exact evds_nil | exact evd_non | exact evd_int | exact evd_str (by decide) | exact evd_var rfl (.str _) | refine evds_cons ?_ ?_ | refine evd_tup ?_ (Nat.le_of_ble_eq_true rfl)) shows_D4) (fun z => by cases z) (fun _ H7 e7 => ?_)
  -- due
  refine q_asgR (ev_disp (K := K) (es := (E17 n q).take 2) (by repeat' first | exact evps_nil | refine evps_cons (evk_pair (by decide)) ?_ ?_ | exact evds_nil | exact evd_non | exact evd_int | exact evd_str (by decide) | exact evd_var rfl (.str _) | refine evds_cons ?_ ?_ | refine evd_tup ?_ (Nat.le_of_ble_eq_true rfl)) (show (KEYS.take 2).Nodup from keys_take) (by show 2 ≤ 15; decide) fun D H8 kvs8 hD0 e8 hD8 hd8 => ?_)
  refine q_upd (K := K) (es := (E17 n q).take 2) (more := ((E17 n q).drop 2).take 2) (H0 := H7) rfl hD0 e8 hD8 hd8 (by repeat' first | exact evps_nil | refine evps_cons (evk_pair (by decide)) ?_ ?_ | exact evds_nil | exact evd_non | exact evd_int | exact evd_str (by decide) | exact evd_var rfl (.str _) | refine evds_cons ?_ ?_ | refine evd_tup ?_ (Nat.le_of_ble_eq_true rfl)) (show (KEYS.take 4).Nodup from keys_take) (List.cons_ne_nil _ _) (by show 2 ≤ 1000; decide) (by show 2 ≤ 15; decide) fun H9 kvs9 e9 hD9 hd9 => ?_
  refine q_upd (K := K) (es := (E17 n q).take 4) (more := ((E17 n q).drop 4).take 2) (H0 := H7) rfl hD0 e9 hD9 hd9 (by repeat' first | exact evps_nil | refine evps_cons (evk_pair (by decide)) ?_ ?_ | exact evds_nil | exact evd_non | exact evd_int | exact evd_str (by decide) | exact evd_var rfl (.str _) | refine evds_cons ?_ ?_ | refine evd_tup ?_ (Nat.le_of_ble_eq_true rfl)) (show (KEYS.take 6).Nodup from keys_take) (List.cons_ne_nil _ _) (by show 4 ≤ 1000; decide) (by show 2 ≤ 15; decide) fun H10 kvs10 e10 hD10 hd10 => ?_
  refine q_upd (K := K) (es := (E17 n q).take 6) (more := ((E17 n q).drop 6).take 2) (H0 := H7) rfl hD0 e10 hD10 hd10 (by repeat' first | exact evps_nil | refine evps_cons (evk_pair (by decide)) ?_ ?_ | exact evds_nil | exact evd_non | exact evd_int | exact evd_str (by decide) | exact evd_var rfl (.str _) | refine evds_cons ?_ ?_ | refine evd_tup ?_ (Nat.le_of_ble_eq_true rfl)) (show (KEYS.take 8).Nodup from keys_take) (List.cons_ne_nil _ _) (by show 6 ≤ 1000; decide) (by show 2 ≤ 15; decide) fun H11 kvs11 e11 hD11 hd11 => ?_
  refine q_upd (K := K) (es := (E17 n q).take 8) (more := ((E17 n q).drop 8).take 3) (H0 := H7) rfl hD0 e11 hD11 hd11 (by repeat' first | exact evps_nil | refine evps_cons (evk_pair (by decide)) ?_ ?_ | exact evds_nil | exact evd_non | exact evd_int | exact evd_str (by decide) | exact evd_var rfl (.str _) | refine evds_cons ?_ ?_ | refine evd_tup ?_ (Nat.le_of_ble_eq_true rfl)) (show (KEYS.take 11).Nodup from keys_take) (List.cons_ne_nil _ _) (by show 8 ≤ 1000; decide) (by show 3 ≤ 15; decide) fun H12 kvs12 e12 hD12 hd12 => ?_
  refine q_upd (K := K) (es := (E17 n q).take 11) (more := ((E17 n q).drop 11).take 2) (H0 := H7) rfl hD0 e12 hD12 hd12 (by repeat' first | exact evps_nil | refine evps_cons (evk_pair (by decide)) ?_ ?_ | exact evds_nil | exact evd_non | exact evd_int | exact evd_str (by decide) | exact evd_var rfl (.str _) | refine evds_cons ?_ ?_ | refine evd_tup ?_ (Nat.le_of_ble_eq_true rfl)) (show (KEYS.take 13).Nodup from keys_take) (List.cons_ne_nil _ _) (by show 11 ≤ 1000; decide) (by show 2 ≤ 15; decide) fun H13 kvs13 e13 hD13 hd13 => ?_
  refine q_upd (K := K) (es := (E17 n q).take 13) (more := ((E17 n q).drop 13).take 2) (H0 := H7) rfl hD0 e13 hD13 hd13 (by repeat' first | exact evps_nil | refine evps_cons (evk_pair (by decide)) ?_ ?_ | exact evds_nil | exact evd_non | exact evd_int | exact evd_str (by decide) | exact evd_var rfl (.str _) | refine evds_cons ?_ ?_ | refine evd_tup ?_ (Nat.le_of_ble_eq_true rfl)) (show (KEYS.take 15).Nodup from keys_take) (List.cons_ne_nil _ _) (by show 13 ≤ 1000; decide) (by show 2 ≤ 15; decide) fun H14 kvs14 e14 hD14 hd14 => ?_
  refine q_upd (K := K) (es := (E17 n q).take 15) (more := ((E17 n q).drop 15).take 2) (H0 := H7) rfl hD0 e14 hD14 hd14 (by repeat' first | exact evps_nil | refine evps_cons (evk_pair (by decide)) ?_ ?_ | exact evds_nil | exact evd_non | exact evd_int | exact evd_str (by decide) | exact evd_var rfl (.str _) | refine evds_cons ?_ ?_ | refine evd_tup ?_ (Nat.le_of_ble_eq_true rfl)) (show (KEYS.take 17).Nodup from keys_take) (List.cons_ne_nil _ _) (by show 15 ≤ 1000; decide) (by show 2 ≤ 15; decide) fun H15 kvs15 e15 hD15 hd15 => ?_
  have hdE : DAt K H15 kvs15 (E17 n q) := hd15
  have hkeys : kvs15.map (·.1) = KEYS := dat_keys hdE
  have e67 : Ex H6 H15 := e7.trans e15
  -- the first loop
  refine ⟨D, .dT kvs15, hD15, trivial, fun od => ?_⟩
  have eG : Ex H7 (upd H15 D (.frz od (.dT kvs15))) := e15.mut hD0
  have hdG := dat_lt (LT.put (o := .frz od (.dT kvs15)) hD15 no_dT) hdE
  have hDG : (upd H15 D (.frz od (.dT kvs15))) D = some (.frz od (.dT kvs15)) := upd_same
  generalize upd H15 D (.frz od (.dT kvs15)) = G1 at eG hdG hDG
  refine ⟨_, rfl, D, od, rfl, .inr ⟨kvs15, hDG, for_it walk_keysT (fun _ σ' H' => (∃ a5 a10, σ' = [some (.ref p), some (.str (S (numW n))), some (.str (S (negW q))), some (.ref l), some (.ref D), a5, none, none, none, none, a10, some (.ref pr), none]) ∧ Ex G1 H') ⟨⟨_, _, rfl⟩, Ex.refl G1⟩ (fun _ _ H' _ h => h.2 _ _ hDG) (fun i x σ' H' H'' hi h hy => ?_) (fun σ' H' h => ?_)⟩⟩
  · obtain ⟨rfl, key, v, t, hkv, rfl, ht⟩ := hy
    obtain ⟨⟨a5, a10, rfl⟩, eH⟩ := h
    obtain ⟨en, hen, hk1, hk2⟩ := dat_get hdG hkv
    obtain ⟨nm, a, i2, j2, hk3, sp, hdat, hsh⟩ := e17_spot hn hq (List.mem_of_getElem? hen)
    rw [hk1, hk3] at ht
    have ht' : H'' t = some (.tup [.str (S nm), .int (a : Int)]) := ht
    have F1 := F.ex ((e7.trans eG).trans eH)
    refine q_asgD (K := K) (d := en.2) ?_ fun v5 H16 e16 hv5 => ?_
    · rw [hdat]
      exact evd_tup (ds := [_, _, _, _]) (evds_cons (evd_word F1 rfl rfl ht' sp) (evds_cons (evd_inner F1 rfl rfl ht' sp) (evds_cons (evd_around F1 rfl rfl ht' sp) (evds_cons (evd_bound F1 rfl rfl ht' sp) evds_nil)))) (by show 4 ≤ 1000; decide)
    · have hg : ∀ H1, Ex H16 H1 → DGet H1 D (.ref t) (some v) := fun H1 e1 => .inr ⟨kvs15, en.1, t, .inr ⟨od, e1 _ _ (e16 _ _ (eH _ _ hDG))⟩, rfl, by rw [hk3]; exact e1 _ _ (e16 _ _ ht), by
        rw [← hk1]
        exact (valV_one (by rw [hkeys]; exact keys_nd) hkv).symm⟩
      exact s_when (b := false) (et_same (evd_var rfl hv5) (evd_dget (ev_var rfl) (ev_var rfl) hg (dp_lt (LT.of (eH.trans e16)) _ _ hk2)) hsh) (fun z => by cases z) (fun _ H17 e17 => ⟨⟨some v5, some (.ref t), rfl⟩, (eH.trans e16).trans e17⟩)
  obtain ⟨⟨a5, a10, rfl⟩, eH⟩ := h
  refine ⟨eH _ _ hDG, ?_⟩
  have e18 : Ex H7 (upd H' D (.dT kvs15)) := (eG.trans eH).mut hD0
  generalize upd H' D (.dT kvs15) = H18 at e18 ⊢
  have F18 := F.ex (e7.trans e18)
  have hT18 := tabs_ex hT6 (e7.trans e18)
  have hl18 := e18 _ _ (e7 _ _ hl6)
  -- the names
  dsimp only
  refine q_keys (ks := NONE.map fun x => [Sum.inr (S x.1), Sum.inl (x.2 : Int)]) (by repeat' first | exact evks_nil | refine evks_cons (evk_pair (by decide)) ?_) (by show 10 ≤ 1000; decide) fun nl ts H20 e20 hnl hts => ?_
  have F20 := F18.ex e20
  have hT20 := tabs_ex hT18 e20
  have hl20 := e20 _ _ hl18
  -- the second loop
  refine ⟨_, rfl, nl, rfl, ⟨_, sq_of hnl⟩, for_it walk_list (fun _ σ' H' => (∃ a5 a7 a10, σ' = [some (.ref p), some (.str (S (numW n))), some (.str (S (negW q))), some (.ref l), some (.ref D), a5, some (.ref nl), a7, none, none, a10, some (.ref pr), none]) ∧ LamX.ExtN H20 H' ∧ LamX.Tabs [(Pt, qn)] H') ⟨⟨_, _, _, rfl⟩, LamX.ExtN.refl H20, hT20⟩ (fun _ _ H' _ h => sq_of (h.2.1 _ _ hnl fun _ z => by cases z)) (fun i x σ' H' H'' hi h hy => ?_) (fun σ' H' h => ?_)⟩
  · obtain ⟨rfl, hx⟩ := hy
    obtain ⟨⟨a5, a7, a10, rfl⟩, eN, hTN⟩ := h
    rw [List.getElem?_map] at hx
    cases zt : ts[i]? with
    | none => rw [zt] at hx; cases hx
    | some t =>
      rw [zt] at hx
      obtain rfl : V.ref t = x := Option.some.inj hx
      obtain ⟨key, hkey, ht⟩ := tups_at hts zt
      rw [List.getElem?_map] at hkey
      cases zk : NONE[i]? with
      | none => rw [zk] at hkey; cases hkey
      | some y =>
        rw [zk] at hkey
        cases hkey
        have hy := List.mem_of_getElem? zk
        have hsh : showOk (plD y.1 y.2) = true := List.all_eq_true.mp shows_none y hy
        have ht' : H20 t = some (.tup [.str (S y.1), .int (y.2 : Int)]) := ht
        refine q_asgR ⟨hTN, fun H21 e21 hT21 => ?_⟩
        have eN21 := eN.trans e21
        have F21 := F20.n eN21
        have ht21 := eN21 _ _ ht' fun _ z => by cases z
        unfold Xv.TTcaught
        dsimp only
        refine ⟨_, rfl, pr, dx, _, rfl, F21.ins, rfl, _, rfl, pr, t, _, _, rfl, F21.ask ht21, fun v hv => ?_, fun _ d H22 e22 hd22 hd22' => ⟨U.exm, fun ae t2 hae ht2 hta => ?_⟩⟩
        · rw [none_at hn hq hy] at hv
          cases hv
        · have x5 : Ex H22 (upd (upd H22 t2 (.tup [.ref ae, .non])) ae (Xv.exv ae (.ref CE) (some d))) := ex_put hae (ex_put ht2 (Ex.refl H22))
          have st : (upd (upd H22 t2 (.tup [.ref ae, .non])) ae (Xv.exv ae (.ref CE) (some d))) t2 = some (.tup [.ref ae, .non]) := (upd_ne hta).trans upd_same
          have sa : (upd (upd H22 t2 (.tup [.ref ae, .non])) ae (Xv.exv ae (.ref CE) (some d))) ae = some (Xv.exv ae (.ref CE) (some d)) := upd_same
          have sd := x5 _ _ hd22'
          have e2J := e22.trans x5
          have htJ := e2J _ _ ht21
          generalize upd (upd H22 t2 (.tup [.ref ae, .non])) ae (Xv.exv ae (.ref CE) (some d)) = J at x5 st sa sd e2J htJ ⊢
          refine ⟨t2, _, 0, .ref ae, rfl, rfl, st_of st, rfl, ?_⟩
          exact s_when (b := false) (et_is (et_or (a := false) (b := false) (et_is (et_not (et_B (ev_isX U (ev_var rfl) sa sd))) rfl) fun _ => et_same (d := plD y.1 y.2) (evd_xv U (ev_var rfl) sa sd (dp_pl htJ)) (evd_var rfl (dp_pl htJ)) hsh) rfl) (fun z => by cases z) (fun _ H24 e24 => ⟨⟨_, _, _, rfl⟩, eN21.trans (extN_of (e2J.trans e24)), tabs_ex hT21 (e2J.trans e24)⟩)
  obtain ⟨⟨a5, a7, a10, rfl⟩, eN, hTN⟩ := h
  have F25 := F20.n eN
  have hl25 := eN _ _ hl20 (fun _ z => by cases z)
  generalize H' = H25 at F25 hl25 ⊢
  dsimp only
  -- again
  have ixl : ∀ {σ : L2.St} {j : Nat} {v : V}, σ[3]? = some (some (.ref l)) → ([.str (S (evenW n)), .str (S (oddW q)), .str (S runW)] : List V)[j]? = some v → Ev (tOp (rIxL K) (tVar 3) (tC (.int j))) σ H25 v := fun h1 h2 => ev_op (ev_var h1) ev_c (rv_ixL (sq_of hl25) (atI_nat h2))
  have hj : jtext (evenW n ++ [10] ++ oddW q) restW = text3 (evenW n) (oddW q) runW := by simp [jtext, text3, runW]
  have tp25 : ∀ {G : Hp}, Ex H25 G → G tp = some (.tup ([S EVN, S ODD].map V.str)) := fun e => by
    have := (F25.ex e).tp_
    rw [parts1 hn hq] at this
    exact this
  have v0 : valV (lineKvs (ls1 n q)) (.inr (S EVN)) = some (.str (S (evenW n))) := by
    have := line_val (ls := ls1 n q) F25.nd (i := 0) rfl
    rw [E.name, E.told] at this
    exact this
  have v1 : valV (lineKvs (ls1 n q)) (.inr (S ODD)) = some (.str (S (oddW q))) := by
    have := line_val (ls := ls1 n q) F25.nd (i := 1) rfl
    rw [O.name, O.told] at this
    exact this
  have v2 : valV (lineKvs (ls1 n q)) (.inr (S RUN)) = some (.str (S runW)) := by
    have := line_val (ls := ls1 n q) F25.nd (i := 2) rfl
    rw [R.name, R.told] at this
    exact this
  refine q_callA (vs := [.str (S (evenW n ++ [10] ++ oddW q)), .str (S restW)]) (ea_cons (ev_call (ea_cons (ev_var rfl) ea_nil) fun H1 e1 Q' q' E' => ⟨pr, dx, dl, tp, _, [S EVN, S ODD], [S (evenW n), S (oddW q)], lineKvs (ls1 n q), rfl, (F25.ex e1).ins, rfl, tp25 e1, rfl, rfl, (F25.ex e1).dl_, rfl, by show 2 ≤ 1000; decide, fun i nm hi => ?_, ?_, fun H3 e3 => by rw [join2]; exact q' H3 e3⟩) (ea_cons (fun H1 e1 Q' q' => ?_) ea_nil)) fun H26 e26 => ⟨evenW n ++ [10] ++ oddW q, restW, ls1 n q, rfl, by simp, ?_, by decide, by rw [hj]; exact rd, fun p2 dx2 H27 e27 hP2 => ?_⟩
  · match i, hi with
    | 0, hi => cases hi; exact ⟨_, rfl, v0⟩
    | 1, hi => cases hi; exact ⟨_, rfl, v1⟩
    | k + 2, hi => simp at hi
  · have := E.len
    have := O.len
    simp only [List.map_cons, List.map_nil, List.sum_cons, List.sum_nil, List.length_cons, List.length_nil, S_len]
    omega
  · refine ixl (j := 2) (v := .str (S runW)) rfl rfl H1 e1 _ fun H2 e2 => ⟨4, rfl, S runW, rfl, by rw [S_len, sizeLine_eq]; decide, by
      have hc : cutS (S runW) (some 4) none = S restW := by decide
      rw [hc]
      exact q' H2 e2⟩
  · have := E.len
    have := O.len
    simp only [List.length_append, List.length_cons, List.length_nil]
    omega
  rw [hj] at hP2
  obtain ⟨lrs2, dl2, tp2, dn2, tl2, tb2, bs2, F2⟩ := pf_of hP2 rd
  have e2527 := e26.trans e27
  have F27 := F25.ex e2527
  have hl27 := e2527 _ _ hl25
  -- far
  have rd2 := prog2 hn hq
  refine q_asgR (r_make (vs := [.str (S (text3 (oddW q) (evenW n) runW))]) (ea_cons (ev_joinL (K := K) (el_lst (ea_cons (ev_op (ev_var rfl) ev_c (rv_ixL (sq_of hl27) (atI_nat (j := 1) rfl))) (ea_cons (ev_op (ev_var rfl) ev_c (rv_ixL (sq_of hl27) (atI_nat (j := 0) rfl))) (ea_cons (ev_op (ev_var rfl) ev_c (rv_ixL (sq_of hl27) (atI_nat (j := 2) rfl))) ea_nil))) (by show 3 ≤ 100000; decide)) (by omega)) ea_nil) fun H28 e28 p3 dx3 hp3 hdx3 hne3 => ⟨p3, dx3, _, rfl, upd_same, .inr ⟨text3 (oddW q) (evenW n) runW, rfl, by simp only [text3, List.length_append, List.length_cons, List.length_nil]; omega, (fun e he => by rw [rd2] at he; cases he), fun ls' hls' H29 K29 hP3 => ⟨rfl, ?_⟩⟩⟩)
  rw [rd2] at hls'
  cases hls'
  have e29 : Ex H27 H29 := fun c o hc => K29 c o (fun z => by rw [z, fresh_back e28 hp3] at hc; cases hc) (ex_put hp3 (ex_put hdx3 (Ex.refl H28)) c o (e28 _ _ hc))
  obtain ⟨lrs3, dl3, tp3, dn3, tl3, tb3, bs3, F3⟩ := pf_of hP3 rd2
  have F29 := F27.ex e29
  have F229 := F2.ex e29
  have hl29 := e29 _ _ hl27
  have hparts3 := F3.parts (K := K)
  rw [parts2 hn hq] at hparts3
  have lODD : (Str.ofString "odd" : Str) = S ODD := by decide
  have lRUN : (Str.ofString "run" : Str) = S RUN := by decide
  have dDL : DpAll K H29 [.str (S (oddW q)), .str (S runW)] [.str (S (oddW q)), .str (S runW)] := .cons (.str _) (.cons (.str _) .nil)
  refine s_ret (v := .bl true) (ev_is (ev_andV (a := true) (b := true) (ev_is (ev_op (ev_var rfl) (ev_var rfl) (rv_own (g := id) F229.ins F29.ins rfl rfl)) ?_) fun _ => ev_is (ev_andV (a := true) (b := true) (ev_is (ev_op (ev_var rfl) (ev_var rfl) (rv_own (g := fun k => !k) F3.ins F29.ins rfl rfl)) ?_) fun _ => ev_is (ev_andV (a := true) (b := true) (ev_same (d := DO) (evd_prop (ev_var rfl) F3.ins rfl hparts3) (by
    unfold DO
    repeat' first | exact evds_nil | exact evd_non | exact evd_int | exact evd_str (by decide) | exact evd_var rfl (.str _) | refine evds_cons ?_ ?_ | refine evd_tup ?_ (Nat.le_of_ble_eq_true rfl)) shows_DO) fun _ => ev_same (d := DL q) (evd_list (el_lines (nms := [ODD, RUN]) (tolds := [oddW q, runW]) F29 (eu_tup (ea_cons (ev_lit lODD) (ea_cons (ev_lit lRUN) ea_nil)) (by show 2 ≤ 100000; decide)) (fun _ => rfl) (fun _ => rfl) (fun _ => rfl) rfl (by show 2 ≤ 1000; decide) fun i nm hi => ?_) dDL) (evd_list (el_sl (ev_var rfl) (eo_some ev_c) eo_none (sq_of hl29)) dDL) (shows_DL hq)) rfl) rfl) rfl) fun H30 _ => k H30
  · simp
  · have : S (text3 (oddW q) (evenW n) runW) ≠ S (text3 (evenW n) (oddW q) runW) := fun z => texts_apart (S_inj z)
    rw [decide_eq_false this]
    rfl
  · match i, hi with
    | 0, hi => cases hi; exact ⟨_, rfl, v1⟩
    | 1, hi => cases hi; exact ⟨_, rfl, v2⟩
    | k + 2, hi => simp at hi
end
end K6
set_option Elab.async false
set_option linter.all false
set_option maxRecDepth 100000
set_option maxHeartbeats 4000000
namespace K6
open PySem PySem.Spec PyProof.Rows L2 Evl Xl SX Mi K5 Xr
theorem find_step {x a : Wd} {hs : Int} {t : Tok} {v : Value} {r : List DictEntry} : List.find? (fun e : DictEntry => Value.isStrOf (S x) e.key) (⟨hs, .str (S a) t, v⟩ :: r) = if a = x then some ⟨hs, .str (S a) t, v⟩ else List.find? (fun e : DictEntry => Value.isStrOf (S x) e.key) r := by
  have : Value.isStrOf (S x) (.str (S a) t) = decide (a = x) := by
    show (S a == S x) = _
    exact S_beq_eq
  rw [List.find?_cons]
  simp only [this]
  by_cases h : a = x
  · simp [h]
  · simp [h]
theorem lookup_step {x a : Wd} {n : Nat} {r : List (Wd × Nat)} : List.lookup x ((a, n) :: r) = if a = x then some n else List.lookup x r := by
  rw [List.lookup_cons]
  by_cases h : a = x
  · subst h; simp
  · have : (x == a) = false := by simpa using fun z => h z.symm
    rw [this, if_neg h]
def entsOf (P : Params) : List (Wd × Nat) → List DictEntry → Prop
  | [], [] => True
  | (a, n) :: r, e :: es => (∃ hs t u, e = ⟨hs, .str (S a) t, .int (Int.ofNat n) u⟩) ∧ entsOf P r es
  | _, _ => False
theorem ents_rel {P : Params} {x : Wd} : ∀ {l : List (Wd × Nat)} {es : List DictEntry}, entsOf P l es → RelO ((l.lookup x).map fun n => V.int (Int.ofNat n)) ((List.find? (fun e : DictEntry => Value.isStrOf (S x) e.key) es).map (·.val)) := by
  intro l
  induction l with
  | nil =>
    intro es h
    cases es with
    | nil => trivial
    | cons e es => exact h.elim
  | cons a r ih =>
    intro es h
    obtain ⟨a, n⟩ := a
    cases es with
    | nil => exact h.elim
    | cons e es =>
      obtain ⟨⟨hs, t, u, rfl⟩, h2⟩ := h
      rw [lookup_step, find_step]
      by_cases z : a = x
      · rw [if_pos z, if_pos z]
        exact ⟨u, rfl⟩
      · rw [if_neg z, if_neg z]
        exact ih h2
theorem ari_rel {P : Params} {es : Array DictEntry} (h : entsOf P ARI es.toList) : ∀ z, RelO (ariV z) (findBy Value.isStrOf es z) := by
  intro z
  have hz : S z.cps.toList = z := S_tl z
  have := ents_rel (x := z.cps.toList) h
  rw [hz] at this
  have e : ariV z = (ARI.lookup z.cps.toList).map fun n => V.int (Int.ofNat n) := by
    unfold ariV ari
    cases ARI.lookup z.cps.toList <;> rfl
  rw [e]
  unfold findBy
  rw [← Array.find?_toList]
  exact this
theorem kit_same {K : PySem.W.Frag} {C : Addr} : PySem.W.kitOne K (.ref C) (.ref C) = some true := by
  unfold PySem.W.kitOne
  rw [if_pos (by simp)]
theorem cls_some {K : PySem.W.Frag} {C : Addr} {oc : Value} {od : Option Addr} {cd : ClassData} {sl : Array (Option Value)} (h : K.lookup C = some ⟨oc, od, .cls cd, sl⟩) : (PySem.W.clsIn K C).isSome = true := by
  unfold PySem.W.clsIn
  rw [h] <;> rfl
theorem exm_mk {K : PySem.W.Frag} {C D : Addr} (hs : (PySem.W.clsIn K D).isSome = true) (ht : PySem.W.typeIn K (.ref D) = some (.type "type")) (hb : PySem.W.subIn K (.ref D) (.type "BaseException") = some true) (h : PySem.W.subIn K (.ref C) (.ref D) = some true) : PySem.W.exmOne K (.ref C) (.ref D) = some true := by
  unfold PySem.W.exmOne PySem.W.kitCls
  rw [if_pos (by rw [hb]; rfl)]
  dsimp only
  rw [if_pos (by rw [hs, ht]; rfl)]
  exact h
theorem kit_none {K : PySem.W.Frag} {D : Addr} (hs : (PySem.W.clsIn K D).isSome = true) (ht : PySem.W.typeIn K (.ref D) = some (.type "type")) : PySem.W.kitOne K (.type "NoneType") (.ref D) = some false := by
  unfold PySem.W.kitOne PySem.W.kitCls
  rw [if_neg (by simp)]
  dsimp only
  rw [if_pos (by rw [hs, ht]; rfl)]
  rfl
theorem kl_nil {P : Params} : PySem.W.KeysLit P [] := by rw [PySem.W.KeysLit.eq_1]; trivial
theorem kl_cons {P : Params} {e : DictEntry} {r : List DictEntry} (h : ∃ x t, e.key = Value.str x t ∧ e.hash = PySem.PyData.keyHash P x) (hr : PySem.W.KeysLit P r) : PySem.W.KeysLit P (e :: r) := by rw [PySem.W.KeysLit.eq_2]; exact ⟨h, hr⟩
theorem eo_nil {P : Params} : entsOf P [] [] := trivial
theorem eo_cons {P : Params} {a : Wd} {n : Nat} {l : List (Wd × Nat)} {e : DictEntry} {r : List DictEntry} (h : ∃ hs t u, e = ⟨hs, .str (S a) t, .int (Int.ofNat n) u⟩) (hr : entsOf P l r) : entsOf P ((a, n) :: l) (e :: r) := ⟨h, hr⟩

def spLaw (K : PySem.W.Frag) (Pt : Addr) : Sp := fun vs H Q _ => ∃ (a : Addr) (ns : List Int), vs = [.ref a] ∧ SqL K H a (ns.map V.int) ∧ ns.length ≤ 63 ∧ LamX.Tabs [(Pt, qn)] H ∧ ∀ H', Q (.bl true) H'
theorem scLaw : FnScope ["script"] ["script"] (C8.fnScope (top 45)) := C8.fnScope_by (by decide +kernel)
section
variable {P : Program} {w : World} {K : PySem.W.Frag} {mg : Str → Option Value} {base : Heap} {f g Pt : Addr} {fd gd : FuncData}
theorem ok_law (F : C8.Fun K "law" "law" (top 45) f fd) (cP : C8.Cal P w K mg base 1 "_law_pot" (spPot K) []) (FR : Xg.FnG P w K mg base C8.CX0 10 g gd ["pot"] (spRight Pt)) (mR : mg "_law_right" = some (.ref g)) (kR : PySem.W.keepIn K (.ref g) = true) (bR : Binds K gd ["pot"] []) : Xg.FnG P w K mg base C8.CX0 11 f fd ["script"] (spLaw K Pt) := by
  obtain ⟨oc, od, dV, kV, doc, pm, an, cdv, ct, osl, rfl, lk, hcd⟩ := F.ex
  refine Xg.fnG_of lk hcd scLaw (fun h => by obtain ⟨a, ns, rfl, _⟩ := h; rfl) fun A outer s H vs Q E hg hr h => ?_
  obtain ⟨a, ns, rfl, ha, hn, hT, k⟩ := h
  suffices z : ∃ t, PSs (cxOf C8.CX0 P w K mg base ["script"] "law" (C8.fnScope (top 45)) f cdv A outer s H E).nox (C8.fnBody (top 45)) t ∧ t { nx := fun _ H' => Q .non H', rt := Q } (start ["script"] [.ref a]) H by
    obtain ⟨t, h1, h2⟩ := z
    exact ⟨t, h1.nox, h2⟩
  refine ⟨_, pss_one (ps_ret (Xg.pe_callG (E := C8.E0) FR hg (hr.mono (Nat.le_refl _)) (by rfl) mR kR bR .nil C8.pass0 (pa_cons (C8.pe_c cP hr (by decide) (by rfl) (pa_cons (pv 0) (pa_cons pe_int pa_nil))) pa_nil))), ?_⟩
  refine ⟨_, rfl, a, ns, rfl, ha, hn, fun p o m H' hp0 e hp ho hm hm1 => ?_⟩
  exact ⟨p, o, m, rfl, tabs_ex hT e, hp, ho, hm, hm1, fun H2 => k H2⟩
end
theorem at_end {l : PySem.W.OpenLaw} {w : World} {K : PySem.W.Frag} {h : Heap} {mg : Str → Option Value} {fa : Addr} (X : K.In h) (G : h.Ns mainGlobals mg) (hfa : mg "law" = some (.ref fa))
    {c Pt : Addr} {f10 : Addr} {od10 an10 : Option Addr} {sl10 : Array (Option Value)} {oc10 kV10 dc10 pm10 ct10 cd10 : Value} {f11 : Addr} {od11 an11 : Option Addr} {sl11 : Array (Option Value)} {oc11 kV11 dc11 pm11 ct11 cd11 : Value} {f12 : Addr} {od12 an12 : Option Addr} {sl12 : Array (Option Value)} {oc12 kV12 dc12 pm12 ct12 cd12 : Value} {f13 : Addr} {od13 an13 : Option Addr} {sl13 : Array (Option Value)} {oc13 kV13 dc13 pm13 ct13 cd13 : Value} {f14 : Addr} {od14 an14 : Option Addr} {sl14 : Array (Option Value)} {oc14 kV14 dc14 pm14 ct14 cd14 : Value} {f21 : Addr} {od21 an21 : Option Addr} {sl21 : Array (Option Value)} {oc21 kV21 dc21 pm21 ct21 cd21 : Value} {f22 : Addr} {od22 an22 : Option Addr} {sl22 : Array (Option Value)} {oc22 kV22 dc22 pm22 ct22 cd22 : Value} {f23 : Addr} {od23 an23 : Option Addr} {sl23 : Array (Option Value)} {oc23 kV23 dc23 pm23 ct23 cd23 : Value} {f24 : Addr} {od24 an24 : Option Addr} {sl24 : Array (Option Value)} {oc24 kV24 dc24 pm24 ct24 cd24 : Value} {f25 : Addr} {od25 an25 : Option Addr} {sl25 : Array (Option Value)} {oc25 kV25 dc25 pm25 ct25 cd25 : Value} {f26 : Addr} {od26 an26 : Option Addr} {sl26 : Array (Option Value)} {oc26 kV26 dc26 pm26 ct26 cd26 : Value} {f31 : Addr} {od31 an31 : Option Addr} {sl31 : Array (Option Value)} {oc31 kV31 dc31 pm31 ct31 cd31 : Value} {f32 : Addr} {od32 an32 : Option Addr} {sl32 : Array (Option Value)} {oc32 kV32 dc32 pm32 ct32 cd32 : Value} {f33 : Addr} {od33 an33 : Option Addr} {sl33 : Array (Option Value)} {oc33 kV33 dc33 pm33 ct33 cd33 : Value} {f37 : Addr} {od37 an37 : Option Addr} {sl37 : Array (Option Value)} {oc37 kV37 dc37 pm37 ct37 cd37 : Value} {f38 : Addr} {od38 an38 : Option Addr} {sl38 : Array (Option Value)} {oc38 kV38 dc38 pm38 ct38 cd38 : Value} {f39 : Addr} {od39 an39 : Option Addr} {sl39 : Array (Option Value)} {oc39 kV39 dc39 pm39 ct39 cd39 : Value} {f41 : Addr} {od41 an41 : Option Addr} {sl41 : Array (Option Value)} {oc41 kV41 dc41 pm41 ct41 cd41 : Value} {f42 : Addr} {od42 an42 : Option Addr} {sl42 : Array (Option Value)} {oc42 kV42 dc42 pm42 ct42 cd42 : Value} {f45 : Addr} {od45 an45 : Option Addr} {sl45 : Array (Option Value)} {oc45 kV45 dc45 pm45 ct45 cd45 : Value} {f43 : Addr} {od43 an43 : Option Addr} {sl43 : Array (Option Value)} {oc43 kV43 dc43 pm43 ct43 cd43 : Value} {f44 : Addr} {od44 an44 : Option Addr} {sl44 : Array (Option Value)} {oc44 kV44 dc44 pm44 ct44 : Value} {Ce : Addr} {fe : Addr} {ode ane : Option Addr} {sle : Array (Option Value)} {oce kVe dce pme cte cde : Value} {Cn : Addr} {fn : Addr} {odn ann : Option Addr} {sln : Array (Option Value)} {ocn kVn dcn pmn ctn cdn : Value} {Cl : Addr} {fl : Addr} {odl anl : Option Addr} {sll : Array (Option Value)} {ocl kVl dcl pml ctl cdl : Value} {Cg : Addr} {fg : Addr} {odg ang : Option Addr} {slg : Array (Option Value)} {ocg kVg dcg pmg ctg cdg : Value} {fpp : Addr} {odpp anpp : Option Addr} {slpp : Array (Option Value)} {ocpp kVpp dcpp pmpp ctpp cdpp : Value} {ppp : Addr} {restpp : List Value} {fpb : Addr} {odpb anpb : Option Addr} {slpb : Array (Option Value)} {ocpb kVpb dcpb pmpb ctpb cdpb : Value} {ppb : Addr} {restpb : List Value} {fq : Addr} {odq anq : Option Addr} {slq : Array (Option Value)} {ocq kVq dcq pmq ctq cdq : Value} {fml : Addr} {odml anml : Option Addr} {slml : Array (Option Value)} {ocml kVml dcml pmml ctml cdml : Value} {fmn : Addr} {odmn anmn : Option Addr} {slmn : Array (Option Value)} {ocmn kVmn dcmn pmmn ctmn cdmn : Value} {fmw : Addr} {odmw anmw : Option Addr} {slmw : Array (Option Value)} {ocmw kVmw dcmw pmmw ctmw cdmw : Value} {fmi : Addr} {odmi anmi : Option Addr} {slmi : Array (Option Value)} {ocmi kVmi dcmi pmmi ctmi cdmi : Value} {fma : Addr} {odma anma : Option Addr} {slma : Array (Option Value)} {ocma kVma dcma pmma ctma cdma : Value} {fmb : Addr} {odmb anmb : Option Addr} {slmb : Array (Option Value)} {ocmb kVmb dcmb pmmb ctmb cdmb : Value} {CB : Addr} {nmCB qCB : Str} {NCB : Addr} {bsCB bmCB : List Value} {snCB : List Str} {subCB : List Value} {abCB : Bool} {colCB : Option Bool} {ddCB : Option Addr} {k0CB k1CB k2CB k3CB k5CB : Option Value} {CE : Addr} {nmCE qCE : Str} {NCE : Addr} {bsCE bmCE : List Value} {snCE : List Str} {subCE : List Value} {abCE : Bool} {colCE : Option Bool} {ddCE : Option Addr} {k0CE k1CE k2CE k3CE k5CE : Option Value} {CN : Addr} {nmCN qCN : Str} {NCN : Addr} {bsCN bmCN : List Value} {snCN : List Str} {subCN : List Value} {abCN : Bool} {colCN : Option Bool} {ddCN : Option Addr} {k0CN k1CN k2CN k3CN k5CN : Option Value} {zLE zFI : Str} {tLE tFI tDE tMW tMP : Tok} {pBI : Addr} {oBI : Option Addr} {itsBI : Array Value} {mBI : Nat} {sBI : Array (Option Value)} {pLW : Addr} {oLW : Option Addr} {itsLW : Array Value} {mLW : Nat} {sLW : Array (Option Value)} {pBW : Addr} {oBW : Option Addr} {itsBW : Array Value} {mBW : Nat} {sBW : Array (Option Value)} {pAR : Addr} {esAR : Array DictEntry} {mAR : Nat} {odc : Option Addr} {vsc : Array Value} {slc : Array (Option Value)} {filec : Str} {tfc : Tok} {flagsc : Int} {tgc : Tok} {inFc : Bool} {textc : Int} {ttc : Tok}
    (a10 : PySem.W.nsIn K mainGlobals "is_text" = some (some (.ref f10)))
    (l10 : K.lookup f10 = some ⟨oc10, od10, .func (PySem.W.fnOf "is_text" "is_text" (C8.fnArgs (top 10)) (C8.fnBody (top 10)) (C8.fnScope (top 10)) .none kV10 dc10 pm10 an10 cd10 ct10), sl10⟩)
    (c10 : PySem.W.codeIn K cd10 "is_text" = true)
    (k10 : PySem.W.keepIn K (.ref f10) = true)
    (a11 : PySem.W.nsIn K mainGlobals "is_integer" = some (some (.ref f11)))
    (l11 : K.lookup f11 = some ⟨oc11, od11, .func (PySem.W.fnOf "is_integer" "is_integer" (C8.fnArgs (top 11)) (C8.fnBody (top 11)) (C8.fnScope (top 11)) .none kV11 dc11 pm11 an11 cd11 ct11), sl11⟩)
    (c11 : PySem.W.codeIn K cd11 "is_integer" = true)
    (k11 : PySem.W.keepIn K (.ref f11) = true)
    (a12 : PySem.W.nsIn K mainGlobals "is_row" = some (some (.ref f12)))
    (l12 : K.lookup f12 = some ⟨oc12, od12, .func (PySem.W.fnOf "is_row" "is_row" (C8.fnArgs (top 12)) (C8.fnBody (top 12)) (C8.fnScope (top 12)) .none kV12 dc12 pm12 an12 cd12 ct12), sl12⟩)
    (c12 : PySem.W.codeIn K cd12 "is_row" = true)
    (k12 : PySem.W.keepIn K (.ref f12) = true)
    (a13 : PySem.W.nsIn K mainGlobals "is_name" = some (some (.ref f13)))
    (l13 : K.lookup f13 = some ⟨oc13, od13, .func (PySem.W.fnOf "is_name" "is_name" (C8.fnArgs (top 13)) (C8.fnBody (top 13)) (C8.fnScope (top 13)) .none kV13 dc13 pm13 an13 cd13 ct13), sl13⟩)
    (c13 : PySem.W.codeIn K cd13 "is_name" = true)
    (k13 : PySem.W.keepIn K (.ref f13) = true)
    (a14 : PySem.W.nsIn K mainGlobals "integer_of" = some (some (.ref f14)))
    (l14 : K.lookup f14 = some ⟨oc14, od14, .func (PySem.W.fnOf "integer_of" "integer_of" (C8.fnArgs (top 14)) (C8.fnBody (top 14)) (C8.fnScope (top 14)) .none kV14 dc14 pm14 an14 cd14 ct14), sl14⟩)
    (c14 : PySem.W.codeIn K cd14 "integer_of" = true)
    (k14 : PySem.W.keepIn K (.ref f14) = true)
    (a21 : PySem.W.nsIn K mainGlobals "is_free" = some (some (.ref f21)))
    (l21 : K.lookup f21 = some ⟨oc21, od21, .func (PySem.W.fnOf "is_free" "is_free" (C8.fnArgs (top 21)) (C8.fnBody (top 21)) (C8.fnScope (top 21)) .none kV21 dc21 pm21 an21 cd21 ct21), sl21⟩)
    (c21 : PySem.W.codeIn K cd21 "is_free" = true)
    (k21 : PySem.W.keepIn K (.ref f21) = true)
    (a22 : PySem.W.nsIn K mainGlobals "read_expression" = some (some (.ref f22)))
    (l22 : K.lookup f22 = some ⟨oc22, od22, .func (PySem.W.fnOf "read_expression" "read_expression" (C8.fnArgs (top 22)) (C8.fnBody (top 22)) (C8.fnScope (top 22)) .none kV22 dc22 pm22 an22 cd22 ct22), sl22⟩)
    (c22 : PySem.W.codeIn K cd22 "read_expression" = true)
    (k22 : PySem.W.keepIn K (.ref f22) = true)
    (a23 : PySem.W.nsIn K mainGlobals "read_node" = some (some (.ref f23)))
    (l23 : K.lookup f23 = some ⟨oc23, od23, .func (PySem.W.fnOf "read_node" "read_node" (C8.fnArgs (top 23)) (C8.fnBody (top 23)) (C8.fnScope (top 23)) .none kV23 dc23 pm23 an23 cd23 ct23), sl23⟩)
    (c23 : PySem.W.codeIn K cd23 "read_node" = true)
    (k23 : PySem.W.keepIn K (.ref f23) = true)
    (a24 : PySem.W.nsIn K mainGlobals "is_written" = some (some (.ref f24)))
    (l24 : K.lookup f24 = some ⟨oc24, od24, .func (PySem.W.fnOf "is_written" "is_written" (C8.fnArgs (top 24)) (C8.fnBody (top 24)) (C8.fnScope (top 24)) .none kV24 dc24 pm24 an24 cd24 ct24), sl24⟩)
    (c24 : PySem.W.codeIn K cd24 "is_written" = true)
    (k24 : PySem.W.keepIn K (.ref f24) = true)
    (a25 : PySem.W.nsIn K mainGlobals "hang" = some (some (.ref f25)))
    (l25 : K.lookup f25 = some ⟨oc25, od25, .func (PySem.W.fnOf "hang" "hang" (C8.fnArgs (top 25)) (C8.fnBody (top 25)) (C8.fnScope (top 25)) .none kV25 dc25 pm25 an25 cd25 ct25), sl25⟩)
    (c25 : PySem.W.codeIn K cd25 "hang" = true)
    (k25 : PySem.W.keepIn K (.ref f25) = true)
    (a26 : PySem.W.nsIn K mainGlobals "bind" = some (some (.ref f26)))
    (l26 : K.lookup f26 = some ⟨oc26, od26, .func (PySem.W.fnOf "bind" "bind" (C8.fnArgs (top 26)) (C8.fnBody (top 26)) (C8.fnScope (top 26)) .none kV26 dc26 pm26 an26 cd26 ct26), sl26⟩)
    (c26 : PySem.W.codeIn K cd26 "bind" = true)
    (k26 : PySem.W.keepIn K (.ref f26) = true)
    (a31 : PySem.W.nsIn K mainGlobals "read_program" = some (some (.ref f31)))
    (l31 : K.lookup f31 = some ⟨oc31, od31, .func (PySem.W.fnOf "read_program" "read_program" (C8.fnArgs (top 31)) (C8.fnBody (top 31)) (C8.fnScope (top 31)) .none kV31 dc31 pm31 an31 cd31 ct31), sl31⟩)
    (c31 : PySem.W.codeIn K cd31 "read_program" = true)
    (k31 : PySem.W.keepIn K (.ref f31) = true)
    (a32 : PySem.W.nsIn K mainGlobals "read_line" = some (some (.ref f32)))
    (l32 : K.lookup f32 = some ⟨oc32, od32, .func (PySem.W.fnOf "read_line" "read_line" (C8.fnArgs (top 32)) (C8.fnBody (top 32)) (C8.fnScope (top 32)) .none kV32 dc32 pm32 an32 cd32 ct32), sl32⟩)
    (c32 : PySem.W.codeIn K cd32 "read_line" = true)
    (k32 : PySem.W.keepIn K (.ref f32) = true)
    (a33 : PySem.W.nsIn K mainGlobals "can_stand" = some (some (.ref f33)))
    (l33 : K.lookup f33 = some ⟨oc33, od33, .func (PySem.W.fnOf "can_stand" "can_stand" (C8.fnArgs (top 33)) (C8.fnBody (top 33)) (C8.fnScope (top 33)) .none kV33 dc33 pm33 an33 cd33 ct33), sl33⟩)
    (c33 : PySem.W.codeIn K cd33 "can_stand" = true)
    (k33 : PySem.W.keepIn K (.ref f33) = true)
    (a37 : PySem.W.nsIn K mainGlobals "is_place" = some (some (.ref f37)))
    (l37 : K.lookup f37 = some ⟨oc37, od37, .func (PySem.W.fnOf "is_place" "is_place" (C8.fnArgs (top 37)) (C8.fnBody (top 37)) (C8.fnScope (top 37)) .none kV37 dc37 pm37 an37 cd37 ct37), sl37⟩)
    (c37 : PySem.W.codeIn K cd37 "is_place" = true)
    (k37 : PySem.W.keepIn K (.ref f37) = true)
    (a38 : PySem.W.nsIn K mainGlobals "parts_text" = some (some (.ref f38)))
    (l38 : K.lookup f38 = some ⟨oc38, od38, .func (PySem.W.fnOf "parts_text" "parts_text" (C8.fnArgs (top 38)) (C8.fnBody (top 38)) (C8.fnScope (top 38)) .none kV38 dc38 pm38 an38 cd38 ct38), sl38⟩)
    (c38 : PySem.W.codeIn K cd38 "parts_text" = true)
    (k38 : PySem.W.keepIn K (.ref f38) = true)
    (a39 : PySem.W.nsIn K mainGlobals "joined_text" = some (some (.ref f39)))
    (l39 : K.lookup f39 = some ⟨oc39, od39, .func (PySem.W.fnOf "joined_text" "joined_text" (C8.fnArgs (top 39)) (C8.fnBody (top 39)) (C8.fnScope (top 39)) .none kV39 dc39 pm39 an39 cd39 ct39), sl39⟩)
    (c39 : PySem.W.codeIn K cd39 "joined_text" = true)
    (k39 : PySem.W.keepIn K (.ref f39) = true)
    (a41 : PySem.W.nsIn K mainGlobals "_law_pot" = some (some (.ref f41)))
    (l41 : K.lookup f41 = some ⟨oc41, od41, .func (PySem.W.fnOf "_law_pot" "_law_pot" (C8.fnArgs (top 41)) (C8.fnBody (top 41)) (C8.fnScope (top 41)) .none kV41 dc41 pm41 an41 cd41 ct41), sl41⟩)
    (c41 : PySem.W.codeIn K cd41 "_law_pot" = true)
    (k41 : PySem.W.keepIn K (.ref f41) = true)
    (a42 : PySem.W.nsIn K mainGlobals "_law_take" = some (some (.ref f42)))
    (l42 : K.lookup f42 = some ⟨oc42, od42, .func (PySem.W.fnOf "_law_take" "_law_take" (C8.fnArgs (top 42)) (C8.fnBody (top 42)) (C8.fnScope (top 42)) .none kV42 dc42 pm42 an42 cd42 ct42), sl42⟩)
    (c42 : PySem.W.codeIn K cd42 "_law_take" = true)
    (k42 : PySem.W.keepIn K (.ref f42) = true)
    (a45 : PySem.W.nsIn K mainGlobals "law" = some (some (.ref f45)))
    (l45 : K.lookup f45 = some ⟨oc45, od45, .func (PySem.W.fnOf "law" "law" (C8.fnArgs (top 45)) (C8.fnBody (top 45)) (C8.fnScope (top 45)) .none kV45 dc45 pm45 an45 cd45 ct45), sl45⟩)
    (c45 : PySem.W.codeIn K cd45 "law" = true)
    (a43 : PySem.W.nsIn K mainGlobals "_law_caught" = some (some (.ref f43)))
    (l43 : K.lookup f43 = some ⟨oc43, od43, .func (PySem.W.fnOf "_law_caught" "_law_caught" (C8.fnArgs (top 43)) (C8.fnBody (top 43)) (C8.fnScope (top 43)) .none kV43 dc43 pm43 an43 cd43 ct43), sl43⟩)
    (c43 : PySem.W.codeIn K cd43 "_law_caught" = true)
    (k43 : PySem.W.keepIn K (.ref f43) = true)
    (a44 : PySem.W.nsIn K mainGlobals "_law_right" = some (some (.ref f44)))
    (l44 : K.lookup f44 = some ⟨oc44, od44, .func (PySem.W.fnOf "_law_right" "_law_right" (C8.fnArgs (top 44)) (C8.fnBody (top 44)) (C8.fnScope (top 44)) .none kV44 dc44 pm44 an44 (.ref c) ct44), sl44⟩)
    (c44 : PySem.W.codeIn K (.ref c) "_law_right" = true)
    (k44 : PySem.W.keepIn K (.ref f44) = true)
    (ACe : PySem.W.nsIn K mainGlobals "UseError" = some (some (.ref Ce)))
    (me : PySem.W.findIn K (.ref Ce) "__init__" = some (some (.ref fe)))
    (le : K.lookup fe = some ⟨oce, ode, .func (PySem.W.fnOf "__init__" "UseError.__init__" (C8.fnArgs sErr) (C8.fnBody sErr) (C8.fnScope sErr) .none kVe dce pme ane cde cte), sle⟩)
    (ce : PySem.W.codeIn K cde "UseError.__init__" = true)
    (ie : PySem.W.isFn K (.ref fe) = true)
    (ACn : PySem.W.nsIn K mainGlobals "Node" = some (some (.ref Cn)))
    (mn : PySem.W.findIn K (.ref Cn) "__init__" = some (some (.ref fn)))
    (ln : K.lookup fn = some ⟨ocn, odn, .func (PySem.W.fnOf "__init__" "Node.__init__" (C8.fnArgs sNode) (C8.fnBody sNode) (C8.fnScope sNode) .none kVn dcn pmn ann cdn ctn), sln⟩)
    (cn : PySem.W.codeIn K cdn "Node.__init__" = true)
    (in_ : PySem.W.isFn K (.ref fn) = true)
    (pgtCn : PySem.W.plainGet K Cn Str.empty = true)
    (hdCn : PySem.W.hasDictIn K Cn = true)
    (poCn : PySem.W.plainOver K Cn = true)
    (saCn : PySem.W.findIn K (.ref Cn) "__setattr__" = some (some (.builtin "object.__setattr__")))
    (mkCn : PySem.W.makesIn K Cn = true)
    (kpCn : PySem.W.keepIn K (.ref Cn) = true)
    (nCn0 : PySem.W.findIn K (.ref Cn) "place" = some none)
    (nCn1 : PySem.W.findIn K (.ref Cn) "sign" = some none)
    (nCn2 : PySem.W.findIn K (.ref Cn) "kind" = some none)
    (nCn3 : PySem.W.findIn K (.ref Cn) "named" = some none)
    (nCn4 : PySem.W.findIn K (.ref Cn) "outer" = some none)
    (nCn5 : PySem.W.findIn K (.ref Cn) "within" = some none)
    (nCn6 : PySem.W.findIn K (.ref Cn) "binder" = some none)
    (nCn7 : PySem.W.findIn K (.ref Cn) "level" = some none)
    (mroCn : PySem.W.mroIn K Cn (.type "object") = some true)
    (eqCn : PySem.W.findIn K (.ref Cn) "__eq__" = some (some (.builtin "object.__eq__")))
    (ACl : PySem.W.nsIn K mainGlobals "Line" = some (some (.ref Cl)))
    (ml : PySem.W.findIn K (.ref Cl) "__init__" = some (some (.ref fl)))
    (ll : K.lookup fl = some ⟨ocl, odl, .func (PySem.W.fnOf "__init__" "Line.__init__" (C8.fnArgs sLine) (C8.fnBody sLine) (C8.fnScope sLine) .none kVl dcl pml anl cdl ctl), sll⟩)
    (cl : PySem.W.codeIn K cdl "Line.__init__" = true)
    (il : PySem.W.isFn K (.ref fl) = true)
    (pgtCl : PySem.W.plainGet K Cl Str.empty = true)
    (hdCl : PySem.W.hasDictIn K Cl = true)
    (poCl : PySem.W.plainOver K Cl = true)
    (saCl : PySem.W.findIn K (.ref Cl) "__setattr__" = some (some (.builtin "object.__setattr__")))
    (mkCl : PySem.W.makesIn K Cl = true)
    (kpCl : PySem.W.keepIn K (.ref Cl) = true)
    (nCl0 : PySem.W.findIn K (.ref Cl) "name" = some none)
    (nCl1 : PySem.W.findIn K (.ref Cl) "told" = some none)
    (nCl2 : PySem.W.findIn K (.ref Cl) "nodes" = some none)
    (nCl3 : PySem.W.findIn K (.ref Cl) "names" = some none)
    (ACg : PySem.W.nsIn K mainGlobals "Program" = some (some (.ref Cg)))
    (mg_ : PySem.W.findIn K (.ref Cg) "__init__" = some (some (.ref fg)))
    (lg : K.lookup fg = some ⟨ocg, odg, .func (PySem.W.fnOf "__init__" "Program.__init__" (C8.fnArgs sProg) (C8.fnBody sProg) (C8.fnScope sProg) .none kVg dcg pmg ang cdg ctg), slg⟩)
    (cg : PySem.W.codeIn K cdg "Program.__init__" = true)
    (ig : PySem.W.isFn K (.ref fg) = true)
    (pgtCg : PySem.W.plainGet K Cg Str.empty = true)
    (hdCg : PySem.W.hasDictIn K Cg = true)
    (poCg : PySem.W.plainOver K Cg = true)
    (saCg : PySem.W.findIn K (.ref Cg) "__setattr__" = some (some (.builtin "object.__setattr__")))
    (mkCg : PySem.W.makesIn K Cg = true)
    (kpCg : PySem.W.keepIn K (.ref Cg) = true)
    (nCg0 : PySem.W.findIn K (.ref Cg) "_text" = some none)
    (nCg1 : PySem.W.findIn K (.ref Cg) "_lines" = some none)
    (nCg2 : PySem.W.findIn K (.ref Cg) "_parts" = some none)
    (nCg3 : PySem.W.findIn K (.ref Cg) "nodes" = some none)
    (nCg4 : PySem.W.findIn K (.ref Cg) "_places" = some none)
    (nCg5 : PySem.W.findIn K (.ref Cg) "_bindings" = some none)
    (papp : PySem.W.findIn K (.ref Cg) "parts" = some (some (.ref ppp)))
    (pgpp : PySem.W.specialIn K (.ref ppp) "__get__" = some (some (.builtin "property.__get__")))
    (ptpp : PySem.W.takesIn K (.ref ppp) = some true)
    (prpp : PySem.W.recIn K ppp "property" = some (.ref fpp :: restpp))
    (lpp : K.lookup fpp = some ⟨ocpp, odpp, .func (PySem.W.fnOf "parts" "Program.parts" (C8.fnArgs sPt) (C8.fnBody sPt) (C8.fnScope sPt) .none kVpp dcpp pmpp anpp cdpp ctpp), slpp⟩)
    (cpp : PySem.W.codeIn K cdpp "Program.parts" = true)
    (papb : PySem.W.findIn K (.ref Cg) "bindings" = some (some (.ref ppb)))
    (pgpb : PySem.W.specialIn K (.ref ppb) "__get__" = some (some (.builtin "property.__get__")))
    (ptpb : PySem.W.takesIn K (.ref ppb) = some true)
    (prpb : PySem.W.recIn K ppb "property" = some (.ref fpb :: restpb))
    (lpb : K.lookup fpb = some ⟨ocpb, odpb, .func (PySem.W.fnOf "bindings" "Program.bindings" (C8.fnArgs sBi) (C8.fnBody sBi) (C8.fnScope sBi) .none kVpb dcpb pmpb anpb cdpb ctpb), slpb⟩)
    (cpb : PySem.W.codeIn K cdpb "Program.bindings" = true)
    (mq : PySem.W.findIn K (.ref Cg) "__eq__" = some (some (.ref fq)))
    (lq : K.lookup fq = some ⟨ocq, odq, .func (PySem.W.fnOf "__eq__" "Program.__eq__" (C8.fnArgs sEqv) (C8.fnBody sEqv) (C8.fnScope sEqv) .none kVq dcq pmq anq cdq ctq), slq⟩)
    (cq : PySem.W.codeIn K cdq "Program.__eq__" = true)
    (iq : PySem.W.isFn K (.ref fq) = true)
    (neCg : PySem.W.findIn K (.ref Cg) "__ne__" = some (some (.builtin "object.__ne__")))
    (mml : PySem.W.findIn K (.ref Cg) "line" = some (some (.ref fml)))
    (lml : K.lookup fml = some ⟨ocml, odml, .func (PySem.W.fnOf "line" "Program.line" (C8.fnArgs sLi) (C8.fnBody sLi) (C8.fnScope sLi) .none kVml dcml pmml anml cdml ctml), slml⟩)
    (cml : PySem.W.codeIn K cdml "Program.line" = true)
    (iml : PySem.W.isFn K (.ref fml) = true)
    (kml : PySem.W.keepIn K (.ref fml) = true)
    (mmn : PySem.W.findIn K (.ref Cg) "node" = some (some (.ref fmn)))
    (lmn : K.lookup fmn = some ⟨ocmn, odmn, .func (PySem.W.fnOf "node" "Program.node" (C8.fnArgs sNd) (C8.fnBody sNd) (C8.fnScope sNd) .none kVmn dcmn pmmn anmn cdmn ctmn), slmn⟩)
    (cmn : PySem.W.codeIn K cdmn "Program.node" = true)
    (imn : PySem.W.isFn K (.ref fmn) = true)
    (kmn : PySem.W.keepIn K (.ref fmn) = true)
    (mmw : PySem.W.findIn K (.ref Cg) "word" = some (some (.ref fmw)))
    (lmw : K.lookup fmw = some ⟨ocmw, odmw, .func (PySem.W.fnOf "word" "Program.word" (C8.fnArgs sWd) (C8.fnBody sWd) (C8.fnScope sWd) .none kVmw dcmw pmmw anmw cdmw ctmw), slmw⟩)
    (cmw : PySem.W.codeIn K cdmw "Program.word" = true)
    (imw : PySem.W.isFn K (.ref fmw) = true)
    (kmw : PySem.W.keepIn K (.ref fmw) = true)
    (mmi : PySem.W.findIn K (.ref Cg) "inner" = some (some (.ref fmi)))
    (lmi : K.lookup fmi = some ⟨ocmi, odmi, .func (PySem.W.fnOf "inner" "Program.inner" (C8.fnArgs sIn) (C8.fnBody sIn) (C8.fnScope sIn) .none kVmi dcmi pmmi anmi cdmi ctmi), slmi⟩)
    (cmi : PySem.W.codeIn K cdmi "Program.inner" = true)
    (imi : PySem.W.isFn K (.ref fmi) = true)
    (kmi : PySem.W.keepIn K (.ref fmi) = true)
    (mma : PySem.W.findIn K (.ref Cg) "around" = some (some (.ref fma)))
    (lma : K.lookup fma = some ⟨ocma, odma, .func (PySem.W.fnOf "around" "Program.around" (C8.fnArgs sAr) (C8.fnBody sAr) (C8.fnScope sAr) .none kVma dcma pmma anma cdma ctma), slma⟩)
    (cma : PySem.W.codeIn K cdma "Program.around" = true)
    (ima : PySem.W.isFn K (.ref fma) = true)
    (kma : PySem.W.keepIn K (.ref fma) = true)
    (mmb : PySem.W.findIn K (.ref Cg) "bound" = some (some (.ref fmb)))
    (lmb : K.lookup fmb = some ⟨ocmb, odmb, .func (PySem.W.fnOf "bound" "Program.bound" (C8.fnArgs sBd) (C8.fnBody sBd) (C8.fnScope sBd) .none kVmb dcmb pmmb anmb cdmb ctmb), slmb⟩)
    (cmb : PySem.W.codeIn K cdmb "Program.bound" = true)
    (imb : PySem.W.isFn K (.ref fmb) = true)
    (kmb : PySem.W.keepIn K (.ref fmb) = true)
    (clCg : PySem.W.findIn K (.ref Cg) "__class__" = some (some (.builtin "object.__class__")))
    (mroCg : PySem.W.mroIn K Cg (.type "object") = some true)
    (spO : PySem.W.specialIn K (.builtin "object.__class__") "__get__" = some (some (.builtin "getset_descriptor.__get__")))
    (tkO : PySem.W.takesIn K (.builtin "object.__class__") = some true)
    (ACB : PySem.W.nsIn K mainGlobals "BadProgram" = some (some (.ref CB)))
    (lkCB : K.lookup CB = some (excClassObj nmCB qCB CB NCB bsCB bmCB true snCB subCB abCB colCB ddCB k0CB k1CB k2CB k3CB k5CB "ValueError.__new__"))
    (rvCB : PySem.HandSPX.refsVE bmCB = true)
    (saCB : PySem.W.findIn K (.ref CB) "__setattr__" = some (some (.builtin "object.__setattr__")))
    (exCB : PySem.W.subIn K (.ref CB) (.type "BaseException") = some true)
    (tyCB : PySem.W.typeIn K (.ref CB) = some (.type "type"))
    (kpCB : PySem.W.keepIn K (.ref CB) = true)
    (inCB : PySem.W.findIn K (.ref CB) "__init__" = some (some (.ref fe)))
    (nvCB : PySem.W.findIn K (.ref CB) "value" = some none)
    (ACE : PySem.W.nsIn K mainGlobals "BadPlace" = some (some (.ref CE)))
    (lkCE : K.lookup CE = some (excClassObj nmCE qCE CE NCE bsCE bmCE true snCE subCE abCE colCE ddCE k0CE k1CE k2CE k3CE k5CE "ValueError.__new__"))
    (rvCE : PySem.HandSPX.refsVE bmCE = true)
    (saCE : PySem.W.findIn K (.ref CE) "__setattr__" = some (some (.builtin "object.__setattr__")))
    (exCE : PySem.W.subIn K (.ref CE) (.type "BaseException") = some true)
    (tyCE : PySem.W.typeIn K (.ref CE) = some (.type "type"))
    (kpCE : PySem.W.keepIn K (.ref CE) = true)
    (inCE : PySem.W.findIn K (.ref CE) "__init__" = some (some (.ref fe)))
    (nvCE : PySem.W.findIn K (.ref CE) "value" = some none)
    (ACN : PySem.W.nsIn K mainGlobals "NoPart" = some (some (.ref CN)))
    (lkCN : K.lookup CN = some (excClassObj nmCN qCN CN NCN bsCN bmCN true snCN subCN abCN colCN ddCN k0CN k1CN k2CN k3CN k5CN "ValueError.__new__"))
    (rvCN : PySem.HandSPX.refsVE bmCN = true)
    (saCN : PySem.W.findIn K (.ref CN) "__setattr__" = some (some (.builtin "object.__setattr__")))
    (exCN : PySem.W.subIn K (.ref CN) (.type "BaseException") = some true)
    (tyCN : PySem.W.typeIn K (.ref CN) = some (.type "type"))
    (kpCN : PySem.W.keepIn K (.ref CN) = true)
    (inCN : PySem.W.findIn K (.ref CN) "__init__" = some (some (.ref fe)))
    (nvCN : PySem.W.findIn K (.ref CN) "value" = some none)
    (tye : PySem.W.typeIn K (.ref fe) = some (.type "function"))
    (isCe : PySem.W.isClsIn K Ce = true)
    (tyCe : PySem.W.typeIn K (.ref Ce) = some (.type "type"))
    (bCe : PySem.W.subIn K (.ref Ce) (.type "BaseException") = some true)
    (sCE : PySem.W.subIn K (.ref CE) (.ref Ce) = some true)
    (gaCE : PySem.W.findIn K (.ref CE) "__getattribute__" = some (some (.builtin "BaseException.__getattribute__")))
    (ggCE : PySem.W.findIn K (.ref CE) "__getattr__" = some none)
    (hdCE : PySem.W.hasDictIn K CE = true)
    (clCE : PySem.W.findIn K (.ref CE) "__class__" = some (some (.builtin "object.__class__")))
    (mrCE : PySem.W.mroIn K CE (.type "object") = some true)
    (z_type : PySem.W.nsIn K mainGlobals "type" = some none)
    (z_str : PySem.W.nsIn K mainGlobals "str" = some none)
    (z_len : PySem.W.nsIn K mainGlobals "len" = some none)
    (z_all : PySem.W.nsIn K mainGlobals "all" = some none)
    (z_any : PySem.W.nsIn K mainGlobals "any" = some none)
    (z_int : PySem.W.nsIn K mainGlobals "int" = some none)
    (z_enumerate : PySem.W.nsIn K mainGlobals "enumerate" = some none)
    (z_tuple : PySem.W.nsIn K mainGlobals "tuple" = some none)
    (z_list : PySem.W.nsIn K mainGlobals "list" = some none)
    (z_isinstance : PySem.W.nsIn K mainGlobals "isinstance" = some none)
    (z_sum : PySem.W.nsIn K mainGlobals "sum" = some none)
    (z_abs : PySem.W.nsIn K mainGlobals "abs" = some none)
    (z_repr : PySem.W.nsIn K mainGlobals "repr" = some none)
    (aLE : PySem.W.nsIn K mainGlobals "LETTERS" = some (some (.str zLE tLE)))
    (eLE : zLE = S LET)
    (aFI : PySem.W.nsIn K mainGlobals "FIGURES" = some (some (.str zFI tFI)))
    (eFI : zFI = S FIG)
    (aDE : PySem.W.nsIn K mainGlobals "DEEPEST" = some (some (.int 30 tDE)))
    (aMW : PySem.W.nsIn K mainGlobals "MOST_WORDS" = some (some (.int 120 tMW)))
    (aMP : PySem.W.nsIn K mainGlobals "MOST_PARTS" = some (some (.int 12 tMP)))
    (aBI : PySem.W.nsIn K mainGlobals "BINDERS" = some (some (.ref pBI)))
    (lBI : K.lookup pBI = some ⟨.type "tuple", oBI, .seq itsBI mBI, sBI⟩)
    (zBI : itsBI.size ≤ 100)
    (vBI : Vals [.str (S [102, 117, 110]), .str (S [108, 101, 116])] itsBI.toList)
    (aLW : PySem.W.nsIn K mainGlobals "LINE_WORDS" = some (some (.ref pLW)))
    (lLW : K.lookup pLW = some ⟨.type "tuple", oLW, .seq itsLW mLW, sLW⟩)
    (zLW : itsLW.size ≤ 100)
    (vLW : Vals [.str (S [112, 97, 114, 116]), .str (S [114, 117, 110])] itsLW.toList)
    (aBW : PySem.W.nsIn K mainGlobals "BINDING_WORDS" = some (some (.ref pBW)))
    (lBW : K.lookup pBW = some ⟨.type "tuple", oBW, .seq itsBW mBW, sBW⟩)
    (zBW : itsBW.size ≤ 100)
    (vBW : Vals [.str (S [99, 97, 108, 108]), .str (S [108, 101, 116]), .str (S [112, 97, 105, 114])] itsBW.toList)
    (aAR : PySem.W.nsIn K mainGlobals "ARITIES" = some (some (.ref pAR)))
    (lAR : K.lookup pAR = some ⟨.type "dict", none, .dict esAR mAR, #[]⟩)
    (vAR : PySem.W.KeysLit w.params esAR.toList)
    (sAR : (pAR == sysModules) = false)
    (eAR : entsOf w.params ARI esAR.toList)
    (lcd : K.lookup c = some ⟨.type "code", odc, .fields vsc, slc⟩)
    (v11 : vsc[11]? = some (.ref Pt))
    (v11b : vsc.getD 11 .none = .ref Pt)
    (v18 : vsc.getD 18 .none = .str filec tfc)
    (v7 : vsc.getD 7 .none = .int flagsc tgc)
    (v9 : vsc.getD 9 .none = .bool inFc)
    (v10 : vsc.getD 10 .none = .int textc ttc)
    (ncP : c ≠ Pt)
    (nP : K.lookup Pt = none)
    (hP : h.get? Pt = some { cls := .none, data := .fields #[] }) :
    Xg.LawAtG l w K C8.CX0 11 63 "script" mg fa h := by
  have e := hfa.symm.trans (PySem.W.mg_of X G a45)
  cases e
  have T : Txt3 K w mg :=
    { type_ := (PySem.W.mg_none_of X G z_type), str_ := (PySem.W.mg_none_of X G z_str), len_ := (PySem.W.mg_none_of X G z_len), all_ := (PySem.W.mg_none_of X G z_all), any_ := (PySem.W.mg_none_of X G z_any), int_ := (PySem.W.mg_none_of X G z_int), enum_ := (PySem.W.mg_none_of X G z_enumerate), tuple_ := (PySem.W.mg_none_of X G z_tuple), list_ := (PySem.W.mg_none_of X G z_list), isi_ := (PySem.W.mg_none_of X G z_isinstance), sum_ := (PySem.W.mg_none_of X G z_sum), abs_ := (PySem.W.mg_none_of X G z_abs), repr_ := (PySem.W.mg_none_of X G z_repr),
      let_ := ⟨_, PySem.W.mg_of X G aLE, by rw [eLE]; exact ⟨_, rfl⟩⟩, fig_ := ⟨_, PySem.W.mg_of X G aFI, by rw [eFI]; exact ⟨_, rfl⟩⟩,
      ari_ := ⟨pAR, PySem.W.mg_of X G aAR, esAR, mAR, lAR, vAR, sAR, ari_rel eAR⟩,
      lwords := ⟨pLW, PySem.W.mg_of X G aLW, fun H => .inr ⟨_, _, _, lLW, rfl, rfl, by rw [sizeLine_eq]; omega, vLW⟩⟩,
      binders := ⟨pBI, PySem.W.mg_of X G aBI, fun H => .inr ⟨_, _, _, lBI, rfl, rfl, by rw [sizeLine_eq]; omega, vBI⟩⟩,
      deep := ⟨_, PySem.W.mg_of X G aDE⟩, mostW := ⟨_, PySem.W.mg_of X G aMW⟩, mostP := ⟨_, PySem.W.mg_of X G aMP⟩,
      bwords := ⟨pBW, PySem.W.mg_of X G aBW, fun H => .inr ⟨_, _, _, lBW, rfl, rfl, by rw [sizeLine_eq]; omega, vBW⟩⟩ }
  have U : NumB K mg Ce CE := ⟨(PySem.W.mg_of X G ACe), (PySem.W.mg_of X G ACE), exm_mk isCe tyCe bCe sCE, kit_same, ⟨gaCE, ggCE, exCE, hdCE, clCE, spO, tkO, mrCE⟩, ⟨gaCE, ggCE, exCE, hdCE⟩, nvCE⟩
  have N : NodeC K mg Cn := ⟨⟨pgtCn, hdCn, poCn, saCn⟩, (PySem.W.mg_of X G ACn), nCn0, nCn1, nCn2, nCn3, nCn4, nCn5, nCn6, nCn7, ⟨mroCn, eqCn⟩⟩
  have L : LineC K mg Cl := ⟨⟨pgtCl, hdCl, poCl, saCl⟩, (PySem.W.mg_of X G ACl), nCl0, nCl1, nCl2, nCl3⟩
  have GP : ProgC K mg Cg := ⟨⟨pgtCg, hdCg, poCg, saCg⟩, (PySem.W.mg_of X G ACg), nCg0, nCg1, nCg2, nCg3, nCg4, nCg5⟩
  have IS : IsC K Cg := ⟨clCg, spO, tkO, mroCg⟩
  have XCB : ErrC K mg "BadProgram" CB fe := ⟨(PySem.W.mg_of X G ACB), ⟨⟨nmCB, qCB, NCB, bsCB, bmCB, snCB, subCB, abCB, colCB, ddCB, k0CB, k1CB, k2CB, k3CB, k5CB, lkCB, rvCB⟩, saCB, exCB, tyCB, kpCB⟩, inCB, tye, nvCB⟩
  have XCE : ErrC K mg "BadPlace" CE fe := ⟨(PySem.W.mg_of X G ACE), ⟨⟨nmCE, qCE, NCE, bsCE, bmCE, snCE, subCE, abCE, colCE, ddCE, k0CE, k1CE, k2CE, k3CE, k5CE, lkCE, rvCE⟩, saCE, exCE, tyCE, kpCE⟩, inCE, tye, nvCE⟩
  have XCN : ErrC K mg "NoPart" CN fe := ⟨(PySem.W.mg_of X G ACN), ⟨⟨nmCN, qCN, NCN, bsCN, bmCN, snCN, subCN, abCN, colCN, ddCN, k0CN, k1CN, k2CN, k3CN, k5CN, lkCN, rvCN⟩, saCN, exCN, tyCN, kpCN⟩, inCN, tye, nvCN⟩
  have d10 : C8.Def K mg "is_text" (top 10) f10 _ := ⟨⟨_, _, _, _, _, _, _, _, _, _, rfl, l10, c10⟩, (PySem.W.mg_of X G a10), k10⟩
  have b10 := d10.fn.binds (ps := ["value"]) (K := K) rfl fun _ _ _ _ _ _ us hl => match us, hl with | [_], _ => rfl
  have d11 : C8.Def K mg "is_integer" (top 11) f11 _ := ⟨⟨_, _, _, _, _, _, _, _, _, _, rfl, l11, c11⟩, (PySem.W.mg_of X G a11), k11⟩
  have b11 := d11.fn.binds (ps := ["value"]) (K := K) rfl fun _ _ _ _ _ _ us hl => match us, hl with | [_], _ => rfl
  have d12 : C8.Def K mg "is_row" (top 12) f12 _ := ⟨⟨_, _, _, _, _, _, _, _, _, _, rfl, l12, c12⟩, (PySem.W.mg_of X G a12), k12⟩
  have b12 := d12.fn.binds (ps := ["value", "many"]) (K := K) rfl fun _ _ _ _ _ _ us hl => match us, hl with | [_, _], _ => rfl
  have d13 : C8.Def K mg "is_name" (top 13) f13 _ := ⟨⟨_, _, _, _, _, _, _, _, _, _, rfl, l13, c13⟩, (PySem.W.mg_of X G a13), k13⟩
  have b13 := d13.fn.binds (ps := ["word"]) (K := K) rfl fun _ _ _ _ _ _ us hl => match us, hl with | [_], _ => rfl
  have d14 : C8.Def K mg "integer_of" (top 14) f14 _ := ⟨⟨_, _, _, _, _, _, _, _, _, _, rfl, l14, c14⟩, (PySem.W.mg_of X G a14), k14⟩
  have b14 := d14.fn.binds (ps := ["word"]) (K := K) rfl fun _ _ _ _ _ _ us hl => match us, hl with | [_], _ => rfl
  have d21 : C8.Def K mg "is_free" (top 21) f21 _ := ⟨⟨_, _, _, _, _, _, _, _, _, _, rfl, l21, c21⟩, (PySem.W.mg_of X G a21), k21⟩
  have b21 := d21.fn.binds (ps := ["word"]) (K := K) rfl fun _ _ _ _ _ _ us hl => match us, hl with | [_], _ => rfl
  have d22 : C8.Def K mg "read_expression" (top 22) f22 _ := ⟨⟨_, _, _, _, _, _, _, _, _, _, rfl, l22, c22⟩, (PySem.W.mg_of X G a22), k22⟩
  have b22 := d22.fn.binds (ps := ["name", "words", "start"]) (K := K) rfl fun _ _ _ _ _ _ us hl => match us, hl with | [_, _, _], _ => rfl
  have d23 : C8.Def K mg "read_node" (top 23) f23 _ := ⟨⟨_, _, _, _, _, _, _, _, _, _, rfl, l23, c23⟩, (PySem.W.mg_of X G a23), k23⟩
  have b23 := d23.fn.binds (ps := ["place", "words", "outer"]) (K := K) rfl fun _ _ _ _ _ _ us hl => match us, hl with | [_, _, _], _ => rfl
  have d24 : C8.Def K mg "is_written" (top 24) f24 _ := ⟨⟨_, _, _, _, _, _, _, _, _, _, rfl, l24, c24⟩, (PySem.W.mg_of X G a24), k24⟩
  have b24 := d24.fn.binds (ps := ["word"]) (K := K) rfl fun _ _ _ _ _ _ us hl => match us, hl with | [_], _ => rfl
  have d25 : C8.Def K mg "hang" (top 25) f25 _ := ⟨⟨_, _, _, _, _, _, _, _, _, _, rfl, l25, c25⟩, (PySem.W.mg_of X G a25), k25⟩
  have b25 := d25.fn.binds (ps := ["node", "waiting"]) (K := K) rfl fun _ _ _ _ _ _ us hl => match us, hl with | [_, _], _ => rfl
  have d26 : C8.Def K mg "bind" (top 26) f26 _ := ⟨⟨_, _, _, _, _, _, _, _, _, _, rfl, l26, c26⟩, (PySem.W.mg_of X G a26), k26⟩
  have b26 := d26.fn.binds (ps := ["node"]) (K := K) rfl fun _ _ _ _ _ _ us hl => match us, hl with | [_], _ => rfl
  have d31 : C8.Def K mg "read_program" (top 31) f31 _ := ⟨⟨_, _, _, _, _, _, _, _, _, _, rfl, l31, c31⟩, (PySem.W.mg_of X G a31), k31⟩
  have b31 := d31.fn.binds (ps := ["text"]) (K := K) rfl fun _ _ _ _ _ _ us hl => match us, hl with | [_], _ => rfl
  have d32 : C8.Def K mg "read_line" (top 32) f32 _ := ⟨⟨_, _, _, _, _, _, _, _, _, _, rfl, l32, c32⟩, (PySem.W.mg_of X G a32), k32⟩
  have b32 := d32.fn.binds (ps := ["told"]) (K := K) rfl fun _ _ _ _ _ _ us hl => match us, hl with | [_], _ => rfl
  have d33 : C8.Def K mg "can_stand" (top 33) f33 _ := ⟨⟨_, _, _, _, _, _, _, _, _, _, rfl, l33, c33⟩, (PySem.W.mg_of X G a33), k33⟩
  have b33 := d33.fn.binds (ps := ["line", "ahead"]) (K := K) rfl fun _ _ _ _ _ _ us hl => match us, hl with | [_, _], _ => rfl
  have d37 : C8.Def K mg "is_place" (top 37) f37 _ := ⟨⟨_, _, _, _, _, _, _, _, _, _, rfl, l37, c37⟩, (PySem.W.mg_of X G a37), k37⟩
  have b37 := d37.fn.binds (ps := ["program", "value"]) (K := K) rfl fun _ _ _ _ _ _ us hl => match us, hl with | [_, _], _ => rfl
  have d38 : C8.Def K mg "parts_text" (top 38) f38 _ := ⟨⟨_, _, _, _, _, _, _, _, _, _, rfl, l38, c38⟩, (PySem.W.mg_of X G a38), k38⟩
  have b38 := d38.fn.binds (ps := ["program"]) (K := K) rfl fun _ _ _ _ _ _ us hl => match us, hl with | [_], _ => rfl
  have d39 : C8.Def K mg "joined_text" (top 39) f39 _ := ⟨⟨_, _, _, _, _, _, _, _, _, _, rfl, l39, c39⟩, (PySem.W.mg_of X G a39), k39⟩
  have b39 := d39.fn.binds (ps := ["parts", "expression"]) (K := K) rfl fun _ _ _ _ _ _ us hl => match us, hl with | [_, _], _ => rfl
  have d41 : C8.Def K mg "_law_pot" (top 41) f41 _ := ⟨⟨_, _, _, _, _, _, _, _, _, _, rfl, l41, c41⟩, (PySem.W.mg_of X G a41), k41⟩
  have b41 := d41.fn.binds (ps := ["script", "place"]) (K := K) rfl fun _ _ _ _ _ _ us hl => match us, hl with | [_, _], _ => rfl
  have d42 : C8.Def K mg "_law_take" (top 42) f42 _ := ⟨⟨_, _, _, _, _, _, _, _, _, _, rfl, l42, c42⟩, (PySem.W.mg_of X G a42), k42⟩
  have b42 := d42.fn.binds (ps := ["pot", "upto"]) (K := K) rfl fun _ _ _ _ _ _ us hl => match us, hl with | [_, _], _ => rfl
  have de : C8.Fun K "__init__" "UseError.__init__" sErr fe _ := ⟨_, _, _, _, _, _, _, _, _, _, rfl, le, ce⟩
  have be := de.binds (ps := ["self", "value"]) (K := K) rfl fun _ _ _ _ _ _ us hl => match us, hl with | [_, _], _ => rfl
  have dn : C8.Fun K "__init__" "Node.__init__" sNode fn _ := ⟨_, _, _, _, _, _, _, _, _, _, rfl, ln, cn⟩
  have bn := dn.binds (ps := ["self", "place", "sign", "outer"]) (K := K) rfl fun _ _ _ _ _ _ us hl => match us, hl with | [_, _, _, _], _ => rfl
  have dl : C8.Fun K "__init__" "Line.__init__" sLine fl _ := ⟨_, _, _, _, _, _, _, _, _, _, rfl, ll, cl⟩
  have bl := dl.binds (ps := ["self", "name", "told", "nodes"]) (K := K) rfl fun _ _ _ _ _ _ us hl => match us, hl with | [_, _, _, _], _ => rfl
  have dg : C8.Fun K "__init__" "Program.__init__" sProg fg _ := ⟨_, _, _, _, _, _, _, _, _, _, rfl, lg, cg⟩
  have bg := dg.binds (ps := ["self", "text"]) (K := K) rfl fun _ _ _ _ _ _ us hl => match us, hl with | [_, _], _ => rfl
  have dpp : C8.Fun K "parts" "Program.parts" sPt fpp _ := ⟨_, _, _, _, _, _, _, _, _, _, rfl, lpp, cpp⟩
  have bpp := dpp.binds (ps := ["self"]) (K := K) rfl fun _ _ _ _ _ _ us hl => match us, hl with | [_], _ => rfl
  have dpb : C8.Fun K "bindings" "Program.bindings" sBi fpb _ := ⟨_, _, _, _, _, _, _, _, _, _, rfl, lpb, cpb⟩
  have bpb := dpb.binds (ps := ["self"]) (K := K) rfl fun _ _ _ _ _ _ us hl => match us, hl with | [_], _ => rfl
  have dq : C8.Fun K "__eq__" "Program.__eq__" sEqv fq _ := ⟨_, _, _, _, _, _, _, _, _, _, rfl, lq, cq⟩
  have bq := dq.binds (ps := ["self", "other"]) (K := K) rfl fun _ _ _ _ _ _ us hl => match us, hl with | [_, _], _ => rfl
  have dml : C8.Fun K "line" "Program.line" sLi fml _ := ⟨_, _, _, _, _, _, _, _, _, _, rfl, lml, cml⟩
  have bml := dml.binds (ps := ["self", "name"]) (K := K) rfl fun _ _ _ _ _ _ us hl => match us, hl with | [_, _], _ => rfl
  have dmn : C8.Fun K "node" "Program.node" sNd fmn _ := ⟨_, _, _, _, _, _, _, _, _, _, rfl, lmn, cmn⟩
  have bmn := dmn.binds (ps := ["self", "place"]) (K := K) rfl fun _ _ _ _ _ _ us hl => match us, hl with | [_, _], _ => rfl
  have dmw : C8.Fun K "word" "Program.word" sWd fmw _ := ⟨_, _, _, _, _, _, _, _, _, _, rfl, lmw, cmw⟩
  have bmw := dmw.binds (ps := ["self", "place"]) (K := K) rfl fun _ _ _ _ _ _ us hl => match us, hl with | [_, _], _ => rfl
  have dmi : C8.Fun K "inner" "Program.inner" sIn fmi _ := ⟨_, _, _, _, _, _, _, _, _, _, rfl, lmi, cmi⟩
  have bmi := dmi.binds (ps := ["self", "place"]) (K := K) rfl fun _ _ _ _ _ _ us hl => match us, hl with | [_, _], _ => rfl
  have dma : C8.Fun K "around" "Program.around" sAr fma _ := ⟨_, _, _, _, _, _, _, _, _, _, rfl, lma, cma⟩
  have bma := dma.binds (ps := ["self", "place"]) (K := K) rfl fun _ _ _ _ _ _ us hl => match us, hl with | [_, _], _ => rfl
  have dmb : C8.Fun K "bound" "Program.bound" sBd fmb _ := ⟨_, _, _, _, _, _, _, _, _, _, rfl, lmb, cmb⟩
  have bmb := dmb.binds (ps := ["self", "place"]) (K := K) rfl fun _ _ _ _ _ _ us hl => match us, hl with | [_, _], _ => rfl
  have d43 : C8.Fun K "_law_caught" "_law_caught" (top 43) f43 _ := ⟨_, _, _, _, _, _, _, _, _, _, rfl, l43, c43⟩
  have b43 := d43.binds (ps := ["call"]) (K := K) rfl fun _ _ _ _ _ _ us hl => match us, hl with | [_], _ => rfl
  have d44 : C8.Fun K "_law_right" "_law_right" (top 44) f44 _ := ⟨_, _, _, _, _, _, _, _, _, _, rfl, l44, c44⟩
  have b44 := d44.binds (ps := ["pot"]) (K := K) rfl fun _ _ _ _ _ _ us hl => match us, hl with | [_], _ => rfl
  have d45 : C8.Fun K "law" "law" (top 45) fa _ := ⟨_, _, _, _, _, _, _, _, _, _, rfl, l45, c45⟩
  have T2 := T.toTxt2
  have T1 := T2.toTxt
  refine ⟨PySem.W.fnOf "law" "law" (C8.fnArgs (top 45)) (C8.fnBody (top 45)) (C8.fnScope (top 45)) .none kV45 dc45 pm45 an45 cd45 ct45, [(c, Pt)], spLaw K Pt, ⟨fun p hp => ?_, fun p hp => ?_, fun p hp => ?_⟩, fun s v => .of_eq rfl, fun H a ns hn _ hcs hS => ⟨a, ns, rfl, hS, hn, fun r hr => ?_, fun _ => rfl⟩, fun base KB GB hTB => ?_⟩
  · rw [List.mem_singleton.mp hp]; exact hP
  · rw [List.mem_singleton.mp hp]; exact nP
  · rw [List.mem_singleton.mp hp]
    exact ⟨_, vsc, filec, tfc, flagsc, tgc, inFc, textc, ttc, X _ _ lcd, rfl, rfl, v11, v11b, v18, v7, v9, v10, ncP⟩
  · rw [List.mem_singleton.mp hr]
    exact LamX.TabS.nil (hcs (c, Pt) (List.mem_singleton.mpr rfl))
  have cT := ok_is_text (P := l.prog) (w := w) (base := base) d10 b10 T1
  have cII := ok_is_integer (P := l.prog) (w := w) (base := base) d11 b11 T1
  have cIR := ok_is_row (P := l.prog) (w := w) (base := base) d12 b12 T1
  have cN := ok_is_name (P := l.prog) (w := w) (base := base) d13 b13 T1
  have cI := ok_integer_of (P := l.prog) (w := w) (base := base) d14 b14 T1
  have cF := ok_is_free d21 b21 T2 cN
  have cW := ok_is_written d24 b24 T1 cI
  have MN : Mk K Cn fn := ⟨mkCn, mn, in_, kpCn⟩
  have ML : Mk K Cl fl := ⟨mkCl, ml, il, kpCl⟩
  have MP : Mk K Cg fg := ⟨mkCg, mg_, ig, kpCg⟩
  have cM := ok_node (P := l.prog) (w := w) (base := base) dn N MN bn
  have cRd := ok_read d23 b23 T2 N cM cF cW
  have cH := ok_hang (P := l.prog) (w := w) (base := base) d25 b25 T2 N
  have cB := ok_bind (P := l.prog) (w := w) (base := base) d26 b26 T2 N
  have cE := ok_expr d22 b22 T2 N cRd cH cB
  have cL := ok_line (P := l.prog) (w := w) (base := base) dl L N ML bl
  have cRL := ok_read_line d32 b32 T2 cF cE cL
  have cC := ok_can (P := l.prog) (w := w) (base := base) (C := Cn) d33 b33 T2 L
  have FE := ok_err (P := l.prog) (w := w) (mg := mg) (base := base) de
  have FR := ok_read_program d31 b31 T2 N L XCB FE be cT cRL cC
  have FP := ok_programX dg T2 GP N L FR d31.mgf d31.kp b31
  have cPl := ok_is_place d37 b37 T1 GP cT cII cIR
  have FNd := ok_nd dmn GP XCE FE be cPl
  have MNd : Meth K Cg "node" fmn := ⟨mmn, imn, kmn⟩
  have FWd := ok_wd dmw GP N MNd FNd bmn
  have FIn := ok_inner dmi T1 GP N MNd FNd bmn
  have FAr := ok_around dma GP N MNd FNd bmn
  have FBd := ok_bound dmb GP N MNd FNd bmn
  have FLi := ok_li dml GP XCN FE be cT
  have MLi : Meth K Cg "line" fml := ⟨mml, iml, kml⟩
  have FPp := ok_parts (P := l.prog) (w := w) (base := base) dpp GP
  have FPb := ok_bindings (P := l.prog) (w := w) (base := base) dpb GP
  have PPp : PropOf K Cg "parts" ppp fpp := ⟨papp, pgpp, ptpp, _, prpp⟩
  have PPb : PropOf K Cg "bindings" ppb fpb := ⟨papb, pgpb, ptpb, _, prpb⟩
  have FQ := ok_eqv (P := l.prog) (w := w) (base := base) dq T1 T1.isi_ GP IS
  have cPT := ok_parts_text d38 b38 T1 T1.isi_ GP IS PPp FPp bpp MLi FLi bml
  have cJ := ok_joined_text d39 b39 cT GP MP FP bg
  have cPot := ok_pot (P := l.prog) (w := w) (base := base) d41 b41 T
  have cTk := ok_take (P := l.prog) (w := w) (base := base) d42 b42 T
  have FRt := ok_right l44 c44 (hTB (c, Pt) (List.mem_singleton.mpr rfl)) l43 c43 (PySem.W.mg_of X G a43) k43 b43 T T1.isi_ U GP IS cTk MP FP bg PPp FPp bpp PPb FPb bpb ⟨mmw, imw, kmw⟩ FWd bmw ⟨mmi, imi, kmi⟩ FIn bmi ⟨mma, ima, kma⟩ FAr bma ⟨mmb, imb, kmb⟩ FBd bmb MLi FLi bml FQ mq iq bq neCg cPT cJ
  exact ok_law d45 cPot FRt (PySem.W.mg_of X G a44) k44 b44
end K6
open PySem PySem.W PyProof.Rows
set_option Elab.async false
set_option linter.all false
set_option maxRecDepth 100000 in
set_option maxHeartbeats 0 in
theorem PySem.Challenge.cw_uselots_k06_places_and_names_by_hand_holds : PySem.Challenge.rw_uselots_k06_places_and_names_by_hand.Holds := by
  w_on; o_law; k_head; (case hw => w_witness2)
  k_fill
  refine Xg.walk_ofG (l := PySem.Challenge.rw_uselots_k06_places_and_names_by_hand) (n := 63) (k := 11) (x := "script") (CX := fun _ => C8.CX0) rfl (by decide) rfl ⟨rfl, by decide, by decide⟩ (fun w h Y => PySem.W.km_in_of Y) ?F (fun _ _ _ _ _ z => z)
  case F =>
    intro w mg fa h Y KX G hmg
    refine' K6.at_end KX G hmg ?k6a10 ?k6l10 ?k6c10 ?k6k10 ?k6a11 ?k6l11 ?k6c11 ?k6k11 ?k6a12 ?k6l12 ?k6c12 ?k6k12 ?k6a13 ?k6l13 ?k6c13 ?k6k13 ?k6a14 ?k6l14 ?k6c14 ?k6k14 ?k6a21 ?k6l21 ?k6c21 ?k6k21 ?k6a22 ?k6l22 ?k6c22 ?k6k22 ?k6a23 ?k6l23 ?k6c23 ?k6k23 ?k6a24 ?k6l24 ?k6c24 ?k6k24 ?k6a25 ?k6l25 ?k6c25 ?k6k25 ?k6a26 ?k6l26 ?k6c26 ?k6k26 ?k6a31 ?k6l31 ?k6c31 ?k6k31 ?k6a32 ?k6l32 ?k6c32 ?k6k32 ?k6a33 ?k6l33 ?k6c33 ?k6k33 ?k6a37 ?k6l37 ?k6c37 ?k6k37 ?k6a38 ?k6l38 ?k6c38 ?k6k38 ?k6a39 ?k6l39 ?k6c39 ?k6k39 ?k6a41 ?k6l41 ?k6c41 ?k6k41 ?k6a42 ?k6l42 ?k6c42 ?k6k42 ?k6a45 ?k6l45 ?k6c45 ?k6a43 ?k6l43 ?k6c43 ?k6k43 ?k6a44 ?k6l44 ?k6c44 ?k6k44 ?k6ACe ?k6me ?k6le ?k6ce ?k6ie ?k6ACn ?k6mn ?k6ln ?k6cn ?k6in_ ?k6pgtCn ?k6hdCn ?k6poCn ?k6saCn ?k6mkCn ?k6kpCn ?k6nCn0 ?k6nCn1 ?k6nCn2 ?k6nCn3 ?k6nCn4 ?k6nCn5 ?k6nCn6 ?k6nCn7 ?k6mroCn ?k6eqCn ?k6ACl ?k6ml ?k6ll ?k6cl ?k6il ?k6pgtCl ?k6hdCl ?k6poCl ?k6saCl ?k6mkCl ?k6kpCl ?k6nCl0 ?k6nCl1 ?k6nCl2 ?k6nCl3 ?k6ACg ?k6mg_ ?k6lg ?k6cg ?k6ig ?k6pgtCg ?k6hdCg ?k6poCg ?k6saCg ?k6mkCg ?k6kpCg ?k6nCg0 ?k6nCg1 ?k6nCg2 ?k6nCg3 ?k6nCg4 ?k6nCg5 ?k6papp ?k6pgpp ?k6ptpp ?k6prpp ?k6lpp ?k6cpp ?k6papb ?k6pgpb ?k6ptpb ?k6prpb ?k6lpb ?k6cpb ?k6mq ?k6lq ?k6cq ?k6iq ?k6neCg ?k6mml ?k6lml ?k6cml ?k6iml ?k6kml ?k6mmn ?k6lmn ?k6cmn ?k6imn ?k6kmn ?k6mmw ?k6lmw ?k6cmw ?k6imw ?k6kmw ?k6mmi ?k6lmi ?k6cmi ?k6imi ?k6kmi ?k6mma ?k6lma ?k6cma ?k6ima ?k6kma ?k6mmb ?k6lmb ?k6cmb ?k6imb ?k6kmb ?k6clCg ?k6mroCg ?k6spO ?k6tkO ?k6ACB ?k6lkCB ?k6rvCB ?k6saCB ?k6exCB ?k6tyCB ?k6kpCB ?k6inCB ?k6nvCB ?k6ACE ?k6lkCE ?k6rvCE ?k6saCE ?k6exCE ?k6tyCE ?k6kpCE ?k6inCE ?k6nvCE ?k6ACN ?k6lkCN ?k6rvCN ?k6saCN ?k6exCN ?k6tyCN ?k6kpCN ?k6inCN ?k6nvCN ?k6tye ?k6isCe ?k6tyCe ?k6bCe ?k6sCE ?k6gaCE ?k6ggCE ?k6hdCE ?k6clCE ?k6mrCE ?k6z_type ?k6z_str ?k6z_len ?k6z_all ?k6z_any ?k6z_int ?k6z_enumerate ?k6z_tuple ?k6z_list ?k6z_isinstance ?k6z_sum ?k6z_abs ?k6z_repr ?k6aLE ?k6eLE ?k6aFI ?k6eFI ?k6aDE ?k6aMW ?k6aMP ?k6aBI ?k6lBI ?k6zBI ?k6vBI ?k6aLW ?k6lLW ?k6zLW ?k6vLW ?k6aBW ?k6lBW ?k6zBW ?k6vBW ?k6aAR ?k6lAR ?k6vAR ?k6sAR ?k6eAR ?k6lcd ?k6v11 ?k6v11b ?k6v18 ?k6v7 ?k6v9 ?k6v10 ?k6ncP ?k6nP ?k6hP
    (case k6a10 => k_is)
    (case k6l10 => k_is)
    (case k6c10 => k_is)
    (case k6k10 => k_is)
    (case k6a11 => k_is)
    (case k6l11 => k_is)
    (case k6c11 => k_is)
    (case k6k11 => k_is)
    (case k6a12 => k_is)
    (case k6l12 => k_is)
    (case k6c12 => k_is)
    (case k6k12 => k_is)
    (case k6a13 => k_is)
    (case k6l13 => k_is)
    (case k6c13 => k_is)
    (case k6k13 => k_is)
    (case k6a14 => k_is)
    (case k6l14 => k_is)
    (case k6c14 => k_is)
    (case k6k14 => k_is)
    (case k6a21 => k_is)
    (case k6l21 => k_is)
    (case k6c21 => k_is)
    (case k6k21 => k_is)
    (case k6a22 => k_is)
    (case k6l22 => k_is)
    (case k6c22 => k_is)
    (case k6k22 => k_is)
    (case k6a23 => k_is)
    (case k6l23 => k_is)
    (case k6c23 => k_is)
    (case k6k23 => k_is)
    (case k6a24 => k_is)
    (case k6l24 => k_is)
    (case k6c24 => k_is)
    (case k6k24 => k_is)
    (case k6a25 => k_is)
    (case k6l25 => k_is)
    (case k6c25 => k_is)
    (case k6k25 => k_is)
    (case k6a26 => k_is)
    (case k6l26 => k_is)
    (case k6c26 => k_is)
    (case k6k26 => k_is)
    (case k6a31 => k_is)
    (case k6l31 => k_is)
    (case k6c31 => k_is)
    (case k6k31 => k_is)
    (case k6a32 => k_is)
    (case k6l32 => k_is)
    (case k6c32 => k_is)
    (case k6k32 => k_is)
    (case k6a33 => k_is)
    (case k6l33 => k_is)
    (case k6c33 => k_is)
    (case k6k33 => k_is)
    (case k6a37 => k_is)
    (case k6l37 => k_is)
    (case k6c37 => k_is)
    (case k6k37 => k_is)
    (case k6a38 => k_is)
    (case k6l38 => k_is)
    (case k6c38 => k_is)
    (case k6k38 => k_is)
    (case k6a39 => k_is)
    (case k6l39 => k_is)
    (case k6c39 => k_is)
    (case k6k39 => k_is)
    (case k6a41 => k_is)
    (case k6l41 => k_is)
    (case k6c41 => k_is)
    (case k6k41 => k_is)
    (case k6a42 => k_is)
    (case k6l42 => k_is)
    (case k6c42 => k_is)
    (case k6k42 => k_is)
    (case k6a45 => k_is)
    (case k6l45 => k_is)
    (case k6c45 => k_is)
    (case k6a43 => k_is)
    (case k6l43 => k_is)
    (case k6c43 => k_is)
    (case k6k43 => k_is)
    (case k6a44 => k_is)
    (case k6l44 => k_is)
    (case k6c44 => k_is)
    (case k6k44 => k_is)
    (case k6ACe => k_is)
    (case k6me => k_is)
    (case k6le => k_is)
    (case k6ce => k_is)
    (case k6ie => k_is)
    (case k6ACn => k_is)
    (case k6mn => k_is)
    (case k6ln => k_is)
    (case k6cn => k_is)
    (case k6in_ => k_is)
    (case k6pgtCn => k_is)
    (case k6hdCn => k_is)
    (case k6poCn => k_is)
    (case k6saCn => k_is)
    (case k6mkCn => k_is)
    (case k6kpCn => k_is)
    (case k6nCn0 => k_is)
    (case k6nCn1 => k_is)
    (case k6nCn2 => k_is)
    (case k6nCn3 => k_is)
    (case k6nCn4 => k_is)
    (case k6nCn5 => k_is)
    (case k6nCn6 => k_is)
    (case k6nCn7 => k_is)
    (case k6mroCn => k_is)
    (case k6eqCn => k_is)
    (case k6ACl => k_is)
    (case k6ml => k_is)
    (case k6ll => k_is)
    (case k6cl => k_is)
    (case k6il => k_is)
    (case k6pgtCl => k_is)
    (case k6hdCl => k_is)
    (case k6poCl => k_is)
    (case k6saCl => k_is)
    (case k6mkCl => k_is)
    (case k6kpCl => k_is)
    (case k6nCl0 => k_is)
    (case k6nCl1 => k_is)
    (case k6nCl2 => k_is)
    (case k6nCl3 => k_is)
    (case k6ACg => k_is)
    (case k6mg_ => k_is)
    (case k6lg => k_is)
    (case k6cg => k_is)
    (case k6ig => k_is)
    (case k6pgtCg => k_is)
    (case k6hdCg => k_is)
    (case k6poCg => k_is)
    (case k6saCg => k_is)
    (case k6mkCg => k_is)
    (case k6kpCg => k_is)
    (case k6nCg0 => k_is)
    (case k6nCg1 => k_is)
    (case k6nCg2 => k_is)
    (case k6nCg3 => k_is)
    (case k6nCg4 => k_is)
    (case k6nCg5 => k_is)
    (case k6papp => k_is)
    (case k6pgpp => k_is)
    (case k6ptpp => k_is)
    (case k6prpp => k_is)
    (case k6lpp => k_is)
    (case k6cpp => k_is)
    (case k6papb => k_is)
    (case k6pgpb => k_is)
    (case k6ptpb => k_is)
    (case k6prpb => k_is)
    (case k6lpb => k_is)
    (case k6cpb => k_is)
    (case k6mq => k_is)
    (case k6lq => k_is)
    (case k6cq => k_is)
    (case k6iq => k_is)
    (case k6neCg => k_is)
    (case k6mml => k_is)
    (case k6lml => k_is)
    (case k6cml => k_is)
    (case k6iml => k_is)
    (case k6kml => k_is)
    (case k6mmn => k_is)
    (case k6lmn => k_is)
    (case k6cmn => k_is)
    (case k6imn => k_is)
    (case k6kmn => k_is)
    (case k6mmw => k_is)
    (case k6lmw => k_is)
    (case k6cmw => k_is)
    (case k6imw => k_is)
    (case k6kmw => k_is)
    (case k6mmi => k_is)
    (case k6lmi => k_is)
    (case k6cmi => k_is)
    (case k6imi => k_is)
    (case k6kmi => k_is)
    (case k6mma => k_is)
    (case k6lma => k_is)
    (case k6cma => k_is)
    (case k6ima => k_is)
    (case k6kma => k_is)
    (case k6mmb => k_is)
    (case k6lmb => k_is)
    (case k6cmb => k_is)
    (case k6imb => k_is)
    (case k6kmb => k_is)
    (case k6clCg => k_is)
    (case k6mroCg => k_is)
    (case k6spO => k_is)
    (case k6tkO => k_is)
    (case k6ACB => k_is)
    (case k6lkCB => k_is)
    (case k6rvCB => decide +kernel)
    (case k6saCB => k_is)
    (case k6exCB => k_is)
    (case k6tyCB => k_is)
    (case k6kpCB => k_is)
    (case k6inCB => k_is)
    (case k6nvCB => k_is)
    (case k6ACE => k_is)
    (case k6lkCE => k_is)
    (case k6rvCE => decide +kernel)
    (case k6saCE => k_is)
    (case k6exCE => k_is)
    (case k6tyCE => k_is)
    (case k6kpCE => k_is)
    (case k6inCE => k_is)
    (case k6nvCE => k_is)
    (case k6ACN => k_is)
    (case k6lkCN => k_is)
    (case k6rvCN => decide +kernel)
    (case k6saCN => k_is)
    (case k6exCN => k_is)
    (case k6tyCN => k_is)
    (case k6kpCN => k_is)
    (case k6inCN => k_is)
    (case k6nvCN => k_is)
    (case k6tye => k_is)
    (case k6isCe => k_is)
    (case k6tyCe => k_is)
    (case k6bCe => k_is)
    (case k6sCE => k_is)
    (case k6gaCE => k_is)
    (case k6ggCE => k_is)
    (case k6hdCE => k_is)
    (case k6clCE => k_is)
    (case k6mrCE => k_is)
    (case k6z_type => k_is)
    (case k6z_str => k_is)
    (case k6z_len => k_is)
    (case k6z_all => k_is)
    (case k6z_any => k_is)
    (case k6z_int => k_is)
    (case k6z_enumerate => k_is)
    (case k6z_tuple => k_is)
    (case k6z_list => k_is)
    (case k6z_isinstance => k_is)
    (case k6z_sum => k_is)
    (case k6z_abs => k_is)
    (case k6z_repr => k_is)
    (case k6aLE => k_is)
    (case k6eLE => decide)
    (case k6aFI => k_is)
    (case k6eFI => decide)
    (case k6aDE => k_is)
    (case k6aMW => k_is)
    (case k6aMP => k_is)
    (case k6aBI => k_is)
    (case k6lBI => k_is)
    (case k6zBI => decide)
    (case k6vBI => exact (.cons ⟨_, rfl⟩ (.cons ⟨_, rfl⟩ .nil)))
    (case k6aLW => k_is)
    (case k6lLW => k_is)
    (case k6zLW => decide)
    (case k6vLW => exact (.cons ⟨_, rfl⟩ (.cons ⟨_, rfl⟩ .nil)))
    (case k6aBW => k_is)
    (case k6lBW => k_is)
    (case k6zBW => decide)
    (case k6vBW => exact (.cons ⟨_, rfl⟩ (.cons ⟨_, rfl⟩ (.cons ⟨_, rfl⟩ .nil))))
    (case k6aAR => k_is)
    (case k6lAR => k_is)
    (case k6vAR => exact (K6.kl_cons ⟨_, _, rfl, rfl⟩ (K6.kl_cons ⟨_, _, rfl, rfl⟩ (K6.kl_cons ⟨_, _, rfl, rfl⟩ (K6.kl_cons ⟨_, _, rfl, rfl⟩ (K6.kl_cons ⟨_, _, rfl, rfl⟩ (K6.kl_cons ⟨_, _, rfl, rfl⟩ (K6.kl_cons ⟨_, _, rfl, rfl⟩ (K6.kl_cons ⟨_, _, rfl, rfl⟩ (K6.kl_cons ⟨_, _, rfl, rfl⟩ (K6.kl_nil)))))))))))
    (case k6sAR => rfl)
    (case k6eAR => exact (K6.eo_cons ⟨_, _, _, rfl⟩ (K6.eo_cons ⟨_, _, _, rfl⟩ (K6.eo_cons ⟨_, _, _, rfl⟩ (K6.eo_cons ⟨_, _, _, rfl⟩ (K6.eo_cons ⟨_, _, _, rfl⟩ (K6.eo_cons ⟨_, _, _, rfl⟩ (K6.eo_cons ⟨_, _, _, rfl⟩ (K6.eo_cons ⟨_, _, _, rfl⟩ (K6.eo_cons ⟨_, _, _, rfl⟩ (K6.eo_nil)))))))))))
    (case k6lcd => k_is)
    (case k6v11 => rfl)
    (case k6v11b => rfl)
    (case k6v18 => rfl)
    (case k6v7 => rfl)
    (case k6v9 => rfl)
    (case k6v10 => rfl)
    (case k6ncP => decide)
    (case k6nP => rfl)
    (case k6hP => exact PySem.W.km_tabs_of Y _ (by decide))
