import PyProof.Rows.All
import Wide.All
import OpenK.AllK
import Wide.FinOn
import HandS.ForMost
import HandS.Exc
import HandS.ExcInit
import HandS.ExcIs
import HandS.ExcField
import HandS.TryOnly
import HandS.Lambda
import HandS.IsInst
import KE.KExcIs
import KE.GoesEnumKw
import HandS.Iter
import HandS.More
import HandS.DictComp
import HandS.StrMore
import HandS.Zip
import HandS.Conv
import HandS.Flow
import HandS.Defaults
import HandS.WideBits
import HandS.FStr
import PyProof.StrBlock2
import HandS.Evl
import HandS.Walk
import HandS.Codes
import KE.KDictKeyed
import KE.KDictDisplayH
import KE.KDictCopyH
import PyProof.ReprRoads
import HandS.EndTab
import PyProof.InstNe
import HandS.WordsExc
import HandS.Dict
import HandS.Property
import HandS.Wide
import HandS.RaiseMore
import HandS.List
import HandS.Style
import HandS.MakeKwOnly
import HandS.Replace
import HandS.ReplaceList
import PyProof.StrCalls6
import PyProof.StrLawsOcc
import PyProof.FitsReplace
import PyProof.Rows.StrLawsPart
import PyProof.StrLawsRepr
import PyProof.ReprLen
import PySem.Challenge.RW_uselots_k01_whole_texts_and_their_first
set_option Elab.async false
set_option linter.all false
set_option maxRecDepth 100000
set_option maxHeartbeats 4000000
namespace Xv
open PySem PySem.Spec PyProof.Rows L2

def exv (a : Addr) (cls : Value) (d : Option Addr) : HO := .ext fun h => ∃ (ob : Obj) (fv : Array Value), h.get? a = some ob ∧ ob.cls = cls ∧ ob.dict = d ∧ ob.data = .fields fv
theorem exv_ok {P : Program} {w : World} {H : Hp} {h : Heap} {a : Addr} {cls : Value} {d : Option Addr} {ob : Obj} {fv : Array Value} (e : h.get? a = some ob) (h1 : ob.cls = cls) (h2 : ob.dict = d) (h3 : ob.data = .fields fv) : ObjOk P w H h a (exv a cls d) :=
  ⟨⟨ob, fv, e, h1, h2, h3⟩, ⟨ob, e⟩, fun _ _ ⟨o, v, q, r⟩ k => ⟨o, v, k o q, r⟩⟩
theorem exv_at {P : Program} {w : World} {H : Hp} {h : Heap} {a : Addr} {cls : Value} {d : Option Addr} (hok : HOk P w H h) (e : H a = some (exv a cls d)) : ∃ (ob : Obj) (fv : Array Value), h.get? a = some ob ∧ ob.cls = cls ∧ ob.dict = d ∧ ob.data = .fields fv :=
  (show ObjOk P w H h a (.ext fun h => ∃ (ob : Obj) (fv : Array Value), h.get? a = some ob ∧ ob.cls = cls ∧ ob.dict = d ∧ ob.data = .fields fv) from hok a _ e).1
section
variable {X : Cx} {pins : List (Addr × Obj)} {σ : L2.St} {H : Hp} {s : Shared} {a : Addr} {oe : Obj} {fv : Array Value} {cls : Value} {d : Option Addr}
/-- what was pinned is tracked from now on -/
theorem inv_hold (J : Inv X ((a, oe) :: pins) σ H s) (hz : Zc cls d oe) (hd : oe.data = .fields fv) (h0 : X.s_0.heap.get? a = none) (np : ∀ p ∈ X.pn ++ pins, p.1 ≠ a) : Inv X pins σ (upd H a (exv a cls d)) s := by
  obtain ⟨ea, na, nL, nF, nc⟩ := J.pin (a, oe) (List.mem_append_right _ List.mem_cons_self)
  have ea : s.heap.get? a = some oe := ea
  have na : H a = none := na
  have old : ∀ {b : Addr} {o : Obj}, X.s_0.heap.get? b = some o → b ≠ a := fun q z => by rw [z, h0] at q; cases q
  have tr : ∀ {b : Addr} {o : HO}, H b = some o → b ≠ a := fun q => ne_of_none q na
  refine ⟨J.ok, J.os, J.bare, ⟨J.base.keep, J.base.slot, fun b o q n hx => ?_, J.base.there, fun b xs q => ?_, fun b o u q => ?_, fun b ps q => ?_⟩, J.loc, J.cell, ?_, fun x c q => ?_, fun p hp => ?_, fun b o q => ?_, J.len⟩
  · rw [upd_ne (old q)]; exact J.base.free b o q n hx
  · have z := J.base.tups b xs q
    rw [upd_ne (tr z)]; exact z
  · have z := J.base.frzs b o u q
    rw [upd_ne (tr z)]; exact z
  · obtain ⟨more, z⟩ := J.base.tbls b ps q
    exact ⟨more, by rw [upd_ne (tr z)]; exact z⟩
  · rw [upd_ne (Ne.symm nL)]; exact J.free
  · have hne : c ≠ a := fun z => by
      obtain ⟨v, o, ho, hdc⟩ := J.cell x c q
      rw [z, ea] at ho
      cases ho
      exact nc v hdc
    rw [upd_ne hne]; exact J.freeC x c q
  · have hp' : p ∈ X.pn ++ (a, oe) :: pins := by
      rcases List.mem_append.mp hp with z | z
      · exact List.mem_append_left _ z
      · exact List.mem_append_right _ (List.mem_cons_of_mem _ z)
    obtain ⟨p1, p2, p3⟩ := J.pin p hp'
    exact ⟨p1, by rw [upd_ne (np p hp)]; exact p2, p3⟩
  · by_cases hb : b = a
    · subst hb
      rw [upd_same] at q
      cases q
      exact exv_ok ea hz.1 hz.2 hd
    · rw [upd_ne hb] at q
      exact (J.hok b o q).stay (fun _ _ _ r => r) (fun c r => by rw [upd_ne (tr r)]; exact r) fun c xs r => by rw [upd_ne (tr r)]; exact r
end
def wKeep (K : PySem.W.Frag) (n : Nat) (c : Value) (i : Nat) (ts : Addr → Value → Option Addr → TS) (D : Ends) : WX := fun cls d σ H =>
  PySem.W.exmOne K cls c = some true ∧ ∀ a, H a = none → σ.length = n → ts a cls d
    { nx := fun σ' H' => H' a = none → D.nx (σ'.set i none) (upd H' a (exv a cls d)), rt := fun v H' => H' a = none → D.rt v (upd H' a (exv a cls d)), bk := fun σ' H' => H' a = none → D.bk (σ'.set i none) (upd H' a (exv a cls d)), ct := fun σ' H' => H' a = none → D.ct (σ'.set i none) (upd H' a (exv a cls d)) }
    (σ.set i (some (.ref a))) H
section
variable {X : Cx} {x n : Str} {c : Value} {i : Nat} {body suite : List Stmt} {b₀ : Stmt} {np pos pos' : Pos} {tb : WX → TS} {ts : Addr → Value → Option Addr → TS}
/-- try: body / except x as n: suite, where all that the body raises is an x; it is kept -/
theorem ps_try_keep (hs : X.stack = X.env :: X.outer) (hf : X.env.frame = some X.env.locals) (hex : X.ex = []) (hN : X.N.Nodup) (hi : X.N[i]? = some n) (hln : X.env.kindOf n = some .local) (hc : Names X x c)
    (hb : ∀ (W : WX) (pn : List (Addr × Obj)) (xe : Value → Shared → Prop), Takes (X.tr pn xe) W → PassesOwn (model X.prog X.w) X.A X.env xe → PSs (X.tr pn xe) body (tb W))
    (hsu : ∀ (a : Addr) (oe : Obj) (cls : Value) (d : Option Addr) (pn : List (Addr × Obj)), Zc cls d oe → (∃ vs, oe.data = .fields vs) → PSs (X.suite a ((a, oe) :: pn)) (b₀ :: suite) (ts a cls d)) :
    PS X (.Try body [.ExceptHandler (some (.Name x np)) (some n) (b₀ :: suite) pos'] [] [] pos) (fun D σ H => tb (wKeep X.K X.N.length c i ts D) D σ H) := by
  refine ⟨fun pins s σ H D I h => wpAny_Try_except ?_⟩
  have ok := I.ok
  have frs2 : X.A.frames = some (X.env :: X.outer) := by rw [ok.frames, hs]
  have caught : Takes (X.tr (X.pn ++ pins) (fun e s₁ => wpAny (model X.prog X.w) X.A (noteFrame e X.env) (fun _ s₂ => wpAny (model X.prog X.w) X.A (setFlight e none) (fun _ s₃ =>
      wpAny (model X.prog X.w) X.A (handleBy e X.env [.ExceptHandler (some (.Name x np)) (some n) (b₀ :: suite) pos']) (SP X pins D) X.xe s₃) X.xe s₂) X.xe s₁)) (wKeep X.K X.N.length c i ts D) := by
    intro u s' xx
    obtain ⟨a, B, sI, pins', σ', H', cls, d, rfl, J0, nb, up, sky, na, os, ag, hm, hgo⟩ := xx
    have J := J0.ofTry ok
    rw [hs] at sky
    show wpAny (model X.prog X.w) X.A (noteFrame (.ref a) X.env) _ _ _
    refine Sky.land Zc.steady frs2 hf sky fun h3 fl up3 => ?_
    have J3 := J.landed (s' := { s' with heap := h3 }) nb fl.1 (up.trans up3) os ag
    obtain ⟨o3, v3, e3, z3, d3⟩ := fl.there
    have off : a ∉ frs (X.env :: X.outer) := fun hm => by
      obtain ⟨_, o', e', hnf⟩ := fl.2.2.1.mem hm
      rw [e3] at e'
      cases e'
      exact hnf _ d3
    have nL : a ≠ X.env.locals := fun z => off (List.mem_filterMap.mpr ⟨X.env, List.mem_cons_self, by rw [hf, z]⟩)
    have nF : a ∉ X.fs := fun hm => by
      obtain ⟨e, he, q⟩ := List.mem_filterMap.mp hm
      exact off (List.mem_filterMap.mpr ⟨e, List.mem_cons_of_mem _ he, q⟩)
    have nB : B.get? a = none := fl.2.1
    have nI : sI.heap.get? a = none := by
      cases q : sI.heap.get? a with
      | none => rfl
      | some o =>
        have z := nb a o q (by rw [hs]; exact off)
        rw [nB] at z
        cases z
    have n0 : X.s_0.heap.get? a = none := by
      cases q : X.s_0.heap.get? a with
      | none => rfl
      | some o =>
        obtain ⟨o', z⟩ := J.base.there a o q (by rw [hex]; simp)
        rw [nI] at z
        cases z
    have npp : ∀ p ∈ X.pn ++ pins, p.1 ≠ a := fun p hp z => by
      have q := (J.pin p hp).1
      rw [z, nI] at q
      cases q
    have S3 := J3.suite e3 d3 na nL nF
    refine wpAny_handleBy_cons (codeAny_handlers_test ?_) (by intro q; cases q)
    have ty : PySem.W.Looks (model X.prog X.w) h3 (typeOf (.ref a)) cls := fun A Q E s k q => wpAny_typeOf_ref (k _ _ e3) (by rw [z3.1]; exact q)
    have named : ∀ {Q : Value → Shared → Prop} {E : Value → Shared → Prop}, Q c { s' with heap := h3 } → wpAny (model X.prog X.w) (X.A.mark (some (.ref a))) (eval (.Name x np) X.env) Q E { s' with heap := h3 } := fun q => by
      obtain ⟨hg, hdbg, hm | ⟨hm, hv, hnn⟩⟩ := hc
      · exact ld_glob (X := X.suite a ((a, o3) :: (X.pn ++ pins))) S3 hg hm q hdbg
      · exact ld_blt (X := X.suite a ((a, o3) :: (X.pn ++ pins))) S3 hg hm hv q hnn hdbg
    refine named ((PySem.W.exm_one (M := model X.prog X.w) J3.kIn ty hm).here (codeAny_handlers_suite_as (HandSPX.lands_againZ fl fun h4 fl4 up4 => ?_)))
    have J4 := J.landed (s' := { s' with heap := h4 }) nb fl4.1 ((up.trans up3).trans up4) os ag
    obtain ⟨o4, v4, e4, z4, d4⟩ := fl4.there
    have S4 := J4.suite e4 d4 na nL nF
    refine store_ok (X := X.suite a ((a, o4) :: (X.pn ++ pins))) (v := .ref a) S4 hN hi (.inl hln) rfl (fun s5 S5 => ?_) (.inr hln)
    refine wpAny_mono ((hsu a o4 cls d (X.pn ++ pins) z4 ⟨_, d4⟩).run [] s5 _ H' _ S5 (hgo a na J.len)) (fun f s6 fin => ?_) (fun _ _ z => False.elim z)
    have leave : ∀ {τ : L2.St} {G : Hp} {Q : Shared → Prop}, Inv (X.suite a ((a, o4) :: (X.pn ++ pins))) [] τ G s6 → (G a = none → ∀ s7, Inv X pins (τ.set i none) (upd G a (exv a cls d)) s7 → Q s7) →
        wpAny (model X.prog X.w) X.A (do bindName X.env n .none; unbindBehindTheSuite X.env n pos') (fun _ s7 => Q s7) X.xe s6 := fun {τ G Q} T6 hq => by
      have T7 : Inv X ((a, o4) :: pins) τ G s6 := ⟨ok, T6.os, T6.bare, T6.base, T6.loc, T6.cell, T6.free, T6.freeC, fun p hp => T6.pin p (by
        rcases List.mem_append.mp hp with z | z
        · exact List.mem_append_left _ (List.mem_cons_of_mem _ (List.mem_append_left _ z))
        · rcases List.mem_cons.mp z with z | z
          · exact List.mem_append_left _ (by rw [z]; exact List.mem_cons_self)
          · exact List.mem_append_left _ (List.mem_cons_of_mem _ (List.mem_append_right _ z))), T6.hok, T6.len⟩
      exact gone_ok T7 hN hi hln fun s7 T8 => hq (T6.pin (a, o4) (List.mem_append_left _ List.mem_cons_self)).2.1 s7 (inv_hold T8 z4 d4 n0 npp)
    cases f with
    | next =>
      obtain ⟨τ, G, T6, q6⟩ := fin
      exact leave T6 fun n6 s7 T => ⟨_, _, T, q6 n6⟩
    | brk =>
      obtain ⟨τ, G, T6, q6⟩ := fin
      exact leave T6 fun n6 s7 T => ⟨_, _, T, q6 n6⟩
    | cont =>
      obtain ⟨τ, G, T6, q6⟩ := fin
      exact leave T6 fun n6 s7 T => ⟨_, _, T, q6 n6⟩
    | ret u =>
      obtain ⟨v6, τ, G, T6, r6, q6⟩ := fin
      exact leave T6 fun n6 s7 T => ⟨_, _, _, T, r6, q6 n6⟩
  refine wpAny_mono ((hb (wKeep X.K X.N.length c i ts D) (X.pn ++ pins) _ caught PassesOwn.looking).run [] s σ H D (I.toTry _) h) (fun f s1 fin => ?_) (fun e s1 he => he)
  cases f with
  | next =>
    obtain ⟨τ, G, T, q⟩ := fin
    exact wpAny_execs_nil ⟨τ, G, T.ofTry ok, q⟩
  | brk =>
    obtain ⟨τ, G, T, q⟩ := fin
    exact ⟨τ, G, T.ofTry ok, q⟩
  | cont =>
    obtain ⟨τ, G, T, q⟩ := fin
    exact ⟨τ, G, T.ofTry ok, q⟩
  | ret u =>
    obtain ⟨v, τ, G, T, r, q⟩ := fin
    exact ⟨v, τ, G, T.ofTry ok, r, q⟩
end

section
variable {X : Cx}
/-- try: act = call() / except e as caught: return (caught, None) / return (None, act) -/
def TTcaught (K : PySem.W.Frag) (CS : Addr) : (XK → Hp → VK → Prop) → Hp → VK → Prop := fun tl H Q =>
  tl (fun cls d H' => PySem.W.exmOne K cls (.ref CS) = some true ∧ ∀ a t, H' a = none → H' t = none → t ≠ a → Q (.ref t) (upd (upd H' t (.tup [.ref a, .non])) a (exv a cls d))) H
    (fun v H' => ∀ t, H' t = none → Q (.ref t) (upd H' t (.tup [.non, v])))
theorem caught_gives {x q : Str} {sg : Scope} {g CS : Addr} {cdg : Value} {p1 p2 p3 p4 p5 p6 p7 p8 p9 p10 p11 p12 p13 p14 p15 : Pos} {k1 k2 k3 k4 : Nat}
    (h0 : sg.names.lookup ("call" : Str) = some .local) (h1 : sg.names.lookup ("act" : Str) = some .local) (h2 : sg.names.lookup ("caught" : Str) = some .local) (hge : sg.names.lookup ("UseError" : Str) = some .globalImplicit) (hme : X.mg "UseError" = some (.ref CS)) :
    LamX.GivesTo X ["call", "act", "caught"] x sg g cdg [.Try [.Assign [.Name "act" p1] (.Call (.Name "call" p2) [] [] p3) p4] [.ExceptHandler (some (.Name "UseError" p5)) (some "caught") [.Return (some (.Tuple [.Name "caught" p6, .Constant .none k1 p7] k2 p8)) p9] p10] [] [] p11,
      .Return (some (.Tuple [.Constant .none k3 p12, .Name "act" p13] k4 p14)) p15] "call" q (TTcaught X.K CS) := by
  intro f c' s H Q tl act hc h
  have nd : (["call", "act", "caught"] : List Str).Nodup := by decide +kernel
  have hgl : Gl (cxOf C8.CX0 X.prog X.w X.K X.mg X.base ["call", "act", "caught"] x sg g cdg X.A X.stack s H C8.E0).nox "UseError" := hge
  have v1 : Vis sg "act" := .inl h1
  have v2 : Vis sg "caught" := .inl h2
  refine ⟨_, pss_cons (ps_try_keep (X := (cxOf C8.CX0 X.prog X.w X.K X.mg X.base ["call", "act", "caught"] x sg g cdg X.A X.stack s H C8.E0).nox) (c := .ref CS) (i := 2)
      (tb := fun W D σ H => ∃ Ech : XK, (∀ cls d σ' H', Ech cls d H' → W cls d σ' H') ∧ σ[0]? = some (some (.ref f)) ∧ H c' = some (LamX.CodeO c' q) ∧ tl Ech H (fun v H' => D.nx (σ.set 1 (some v)) H'))
      rfl rfl rfl nd rfl h2 ⟨hgl, by decide, .inl hme⟩ (fun W pn xe tk _ => ?_) (fun a oe cls d pn _ _ => pss_one (ps_ret (pe_tup (pa_cons (pv 2 rfl v2) (pa_cons pe_non pa_nil))))))
      (pss_one (ps_ret (pe_tup (pa_cons pe_non (pa_cons (pv 1 rfl v1) pa_nil))))), ?_⟩
  · refine ⟨fun pins s' σ H' D I h' => ?_⟩
    obtain ⟨Ech, hW, e1, e2, e3⟩ := h'
    have hp := act W pn xe Ech p2 p3 tk hW
    have hq := pss_one (ps_set (i := 1) (pos := p4) (pos' := p1) (X := (cxOf C8.CX0 X.prog X.w X.K X.mg X.base ["call", "act", "caught"] x sg g cdg X.A X.stack s H C8.E0).tr pn xe) nd rfl (.inl h1) hp)
    exact hq.run pins s' σ H' D I ⟨e1, e2, e3⟩
  · refine ⟨fun cls d H' => PySem.W.exmOne X.K cls (.ref CS) = some true ∧ ∀ a t, H' a = none → H' t = none → t ≠ a → Q (.ref t) (upd (upd H' t (.tup [.ref a, .non])) a (exv a cls d)), fun cls d σ' H' ⟨m, k⟩ => ⟨m, fun a ha hl => ?_⟩, rfl, hc, ?_⟩
    · refine ⟨.ref a, List.getElem?_set_self (by rw [hl]; show 2 < 3; decide), (by show 2 ≤ sizeLine; decide), fun t ht n6 => k a t ha ht fun z => ?_⟩
      rw [z, upd_same] at n6
      cases n6
    · have e : (fun (v : V) (H' : Hp) => tRet (tTup (tCons (tC .non) (tCons (tVar 1) tNil))) { nx := fun _ H' => Q .non H', rt := Q } ((L2.start ["call", "act", "caught"] [V.ref f]).set 1 (some v)) H') = fun v H' => ∀ t, H' t = none → Q (.ref t) (upd H' t (.tup [.non, v])) :=
        funext fun v => funext fun H' => propext ⟨fun r => by
          obtain ⟨v', e1, _, k⟩ := r
          cases e1
          exact k, fun k => ⟨v, rfl, (by show 2 ≤ sizeLine; decide), k⟩⟩
      exact Eq.mp (congrArg (fun R => tl _ H R) e.symm) h
end

/-- the class D of an exception, as isinstance asks it -/
structure XcC (K : PySem.W.Frag) (D : Addr) : Prop extends ExcC K D where
  no : ∀ f : Str, f = "value" → PySem.W.findIn K (.ref D) f = some none
section
variable {X : Cx} {pins : List (Addr × Obj)} {σ : L2.St} {H : Hp} {s : Shared}
theorem exv_inst {a D dd : Addr} {fs : List (Str × V)} (I : Inv X pins σ H s) (e : H a = some (exv a (.ref D) (some dd))) (ed : H dd = some (.xd fs)) :
    ∃ ob od, PySem.W.InstAt s.heap a ob D (some od) ∧ ∀ n : Str, ∃ m : Option Value, PySem.W.lookIn n od = some m ∧ RelO (fs.lookup n) m := by
  obtain ⟨ob, fv, h1, h2, h3, h4⟩ := exv_at I.hok e
  have hx : ObjOk X.prog X.w H s.heap dd (.xd fs) := I.hok dd _ ed
  obtain ⟨mA, hns, hr⟩ := hx
  obtain ⟨od, ho, hl⟩ := lookIn_ns hns
  exact ⟨ob, od, ⟨h1, h2, by unfold PySem.W.notCls; rw [h4] <;> rfl, by rw [h3]; exact ho⟩, fun n => ⟨mA n, hl n, hr n⟩⟩
/-- an own exception that is kept, or any value whose class the layer knows -/
def TyV (K : PySem.W.Frag) (H : Hp) (x : V) (t : Value) : Prop := TyX K H x t ∨ ∃ (a D dd : Addr) (fs : List (Str × V)), x = .ref a ∧ t = .ref D ∧ H a = some (exv a (.ref D) (some dd)) ∧ H dd = some (.xd fs) ∧ ExcC K D
def rIsV (K : PySem.W.Frag) : List V → Hp → VK → Prop := fun xs H Q => ∃ (x c : V) (t u : Value) (b : Bool), xs = [x, c] ∧ ClsV c u ∧ TyV K H x t ∧ PySem.W.kitOne K t u = some b ∧ Q (.bl b) H
theorem call_isV : CallR X (.builtin "isinstance") (rIsV X.K) := by
  intro pins s σ H xs us Q I r h
  obtain ⟨x, c, t, u, b, rfl, k, ty, e, q⟩ := h
  rcases ty with ty | ⟨a, D, dd, fs, rfl, rfl, ea, ed, C⟩
  · exact call_isi pins s σ H _ us Q I r ⟨x, c, t, u, b, rfl, k, ty, e, q⟩
  · obtain ⟨u1, u2, rfl, r1, r2⟩ := vals2 r
    have e2 := k.eq r2
    subst e2
    obtain rfl : u1 = Value.ref a := r1
    obtain ⟨ob, od, J, _⟩ := exv_inst I ea ed
    obtain ⟨cd, hc, _⟩ := PySem.W.any_some C.hd
    exact PySem.W.kia_one (PySem.W.kitx_exc (by rw [hc]; rfl) C.hg C.hk C.hs C.ha C.hn C.ht C.hm) I.kIn J e (fun z => nomatch z) fun tk => ⟨.bl b, H, I.tok tk, rfl, q⟩
/-- e.n of a kept exception -/
def tXv (K : PySem.W.Frag) (n : Str) (te : TE) : TE := fun σ H Q => te σ H fun x H1 => ∃ (a C dd : Addr) (fs : List (Str × V)) (v : V), x = .ref a ∧ H1 a = some (exv a (.ref C) (some dd)) ∧ H1 dd = some (.xd fs) ∧ XfC K C ∧ PySem.W.findIn K (.ref C) n = some none ∧ fs.lookup n = some v ∧ Q v H1
theorem pe_xv {e : Expr} {te : TE} {pos : Pos} {n : Str} (he : PE X e te) (hb : attributeBase e n X.env (eval e X.env) = eval e X.env := by rfl) : PE X (.Attribute e n pos) (tXv X.K n te) := by
  refine ⟨fun pins s σ H Q I h => attr_of hb (thn (he.run pins s σ H _ I h) fun u s1 hh => ?_)⟩
  obtain ⟨x, H1, I1, rx, a, C, dd, fs, v, rfl, ea, ed, T, hno, l, q⟩ := hh
  obtain rfl : u = Value.ref a := rx
  obtain ⟨ob, od, J, hl⟩ := exv_inst I1 ea ed
  obtain ⟨m, hm, hr⟩ := hl n
  rw [l] at hr
  obtain ⟨u, hu, ru⟩ := RelO.some_of (v := v) (o := m) hr
  exact HandSPX.exc_get I1.kIn J T.ga T.gg T.exC (PySem.W.findObj_own T.hdC hno rfl (by rw [hm, hu])) (handed_of ru) ⟨v, H1, I1.tok _, ru, q⟩
end
end Xv
set_option Elab.async false
set_option linter.all false
set_option maxRecDepth 100000
set_option maxHeartbeats 4000000
namespace Xe
open PySem PySem.Spec PyProof.Rows L2
def ItE (K : PySem.W.Frag) (k₀ : Int) (a : Addr) : It :=
  ⟨fun i H => ∃ (xs : List V) (x : V), SqL K H a xs ∧ xs[i]? = some x,
   fun i H v H' => ∃ T x, v = .ref T ∧ H T = none ∧ H' = upd H T (.tup [.int (k₀ + (i : Int)), x]) ∧ ∀ xs, SqL K H a xs → xs[i]? = some x,
   fun i H => ∃ xs : List V, SqL K H a xs ∧ xs.length ≤ i⟩
theorem turn_enumK {P : Program} {w : World} {K : PySem.W.Frag} {elts : List Expr} {kk : Nat} {tpos : Pos} (k₀ : Int) (a e it : Addr) :
    Turn P w K (.Tuple elts kk tpos) (ItE K k₀ a) [e, it] e (fun i h => (∃ old, IsEnum h e it (k₀ + (i : Int)) old) ∧ h.IsListIter it a i ∧ e ≠ it ∧ a ≠ it ∧ e ≠ a) where
  mem := List.mem_cons_self
  obj := by
    rintro i h ⟨⟨old, he⟩, ⟨o, ho, hc, hd⟩, _⟩ b hb
    rcases List.mem_cons.mp hb with rfl | hb
    · exact ⟨_, he, fun v q => nomatch q⟩
    · rw [List.mem_singleton.mp hb]
      exact ⟨o, ho, fun v q => by rw [hd] at q; cases q⟩
  keep := by
    rintro i h h' ⟨⟨old, he⟩, hi, n1, n2, n3⟩ k
    exact ⟨⟨old, k e List.mem_cons_self _ he⟩, hi.at fun o q => k it (by simp) o q, n1, n2, n3⟩
  item := by
    intro X hP hw hK hc i pins s σ H E I hf st hg
    subst hP hw hK
    obtain ⟨⟨old, he⟩, hit, n1, n2, n3⟩ := st
    obtain ⟨xs, x, hq, hx⟩ := hg
    obtain ⟨its, rv, p, hz⟩ := I.list hq
    obtain ⟨u, hu, ru⟩ := rv.get hx
    have le : e < s.heap.objs.size := Heap.lt_size he
    have li : it < s.heap.objs.size := by obtain ⟨_, q, _⟩ := hit; exact Heap.lt_size q
    have hn : X.A.in1.handled = none := I.ok.hd hc
    have hlt : i < its.toArray.size := by
      have := (List.getElem?_eq_some_iff.mp hu).1
      simpa using this
    have ne2 : e ∉ [it, a] := by simp [n1, n3]
    refine wpAny_pyNext_enum_itemC (Draws.list hn it a n2 its.toArray) he ⟨hit, p.isList⟩ hlt n1 ne2 fun y h' tk hy ho st' hT hsz hk => ⟨_, rfl, ?_⟩
    have ey : y = u := by
      have : its[i]? = some y := by simpa using hy
      rw [hu] at this
      exact (Option.some.inj this).symm
    subst ey
    refine wpAny_letOwnedTupleGo_enum (s := { s with heap := h', toks := tk + 1 }) ho fun h2 he2 sb => ?_
    have hT2 : h2.get? s.heap.objs.size = some { cls := .type "tuple", data := .seq #[.int (k₀ + (i : Int)) tk, y] } := (sb.2 _ (Nat.ne_of_gt le)).trans hT
    have new : ObjOk X.prog X.w (upd H s.heap.objs.size (.tup [.int (k₀ + (i : Int)), x])) h2 s.heap.objs.size (.tup [.int (k₀ + (i : Int)), x]) :=
      ⟨by show 2 ≤ sizeLine; decide, [.int (k₀ + (i : Int)) tk, y], .cons ⟨_, rfl⟩ (.cons ru .nil), ⟨_, hT2, rfl, _, rfl⟩⟩
    have I1 : Inv X pins σ (upd H s.heap.objs.size (.tup [.int (k₀ + (i : Int)), x])) { s with heap := h2, toks := tk + 1 } :=
      I.turnedNew (ch := [e, it]) (fun b ob hb q => (sb.2 b (fun z => hb (by simp [z]))).trans (hk b ob (fun z => hb (by simp [z])) (fun z => hb (by simp [z])) q)) hf (Nat.le_refl _) new
    refine ⟨.ref s.heap.objs.size, _, I1, rfl, ⟨_, x, rfl, I.hok.fresh (Nat.le_refl _), rfl, fun ys hy => by rw [I.list_inj hy hq]; exact hx⟩, ⟨⟨y, ?_⟩, st'.1.at fun o q => (sb.2 it (Ne.symm n1)).trans q, n1, n2, n3⟩, fun b hb => ?_⟩
    · have e1 : k₀ + ((i + 1 : Nat) : Int) = k₀ + (i : Int) + 1 := by omega
      rw [e1]; exact he2
    · have hb' : b < s.heap.objs.size := by
        rcases List.mem_cons.mp hb with z | z
        · rw [z]; exact le
        · rw [List.mem_singleton.mp z]; exact li
      rw [upd_ne (Nat.ne_of_lt hb')]
      exact (hf b hb).1
  done := by
    intro X hP hw hK hc i pins s σ H E I hf st hg
    subst hP hw hK
    obtain ⟨⟨old, he⟩, hit, n1, n2, n3⟩ := st
    obtain ⟨xs, hq, hx⟩ := hg
    obtain ⟨its, rv, p, hz⟩ := I.list hq
    obtain ⟨f0, f1, f2, f3, f4, f5⟩ := hf it (by simp)
    have hl := rv.length
    have hn : X.A.in1.handled = none := I.ok.hd hc
    have D : Draws X.prog X.w X.A.in1 it [it, a] i (fun _ _ => False) (fun j h => j = i ∧ h.IsListIter it a i ∧ h.IsList a its.toArray) := {
      live := fun _ _ st => let ⟨_, ⟨o, ho, _⟩, _⟩ := st; ⟨o, ho⟩
      frame := fun _ _ _ st hk => ⟨st.1, st.2.1.at fun o q => hk it (by simp) o q, st.2.2.at fun o q => hk a (by simp) o q⟩
      item := fun j _ _ _ hj st _ => absurd st.1 (Nat.ne_of_lt hj)
      done := fun s Q E st hE => wpAny_nextOf_list_end hn st.2.1 st.2.2 (by simp; omega) hE }
    exact wpAny_pyNext_enum_endD D he ⟨rfl, hit, p.isList⟩ fun h' eb => ⟨rfl, I.turned (t' := s.toks) (fun b o hb q => eb b o hb q) f0 f1 f3 f4 f5⟩
  self := fun A i s Q E st h => let ⟨⟨_, he⟩, _⟩ := st; wpAny_pyIter_enum he h
def iEnumK (K : PySem.W.Frag) (k₀ : Int) (ta : TA) : TI := fun σ H R => ta σ H fun vs H1 => ∃ a xs, vs = [.ref a] ∧ SqL K H1 a xs ∧ R (ItE K k₀ a) H1
theorem callWith_typeK {M : Model} {A : Around} {E : Value → Shared → Prop} {s : Shared} {env : Env} {pos : Pos} {T : String} {e : Expr} {rest : List Expr} {kws : List Keyword} {Q : Value → Shared → Prop} (hall : (backToKw pos (keywordEach kws env)).all (·.1.isSome) = true)
    (h : wpAny M A (spliced (backTo pos (starEach (e :: rest) env))) (fun vs s₁ => wpAny M A (evalAll ((backToKw pos (keywordEach kws env)).map (·.2)))
      (fun ks s₂ => wpAny M A (call (.type T) vs (((backToKw pos (keywordEach kws env)).filterMap (·.1)).zip ks)) Q E s₂) E s₁) E s)
    (hplain : ((backTo pos (starEach (e :: rest) env)).any (·.1) || (backToKw pos (keywordEach kws env)).any (·.1.isNone)) = false := by rfl) (he : starEach (e :: rest) env = (false, eval e env) :: starEach rest env := by rfl) :
    wpAny M A (callWith pos (.type T) [] (backTo pos (starEach (e :: rest) env)) (backToKw pos (keywordEach kws env))) Q E s :=
  PySem.W.callWith_of (P := fun _ => True) hplain (fun _ _ => ⟨.machine, .inr (.inl rfl), PySem.W.Looks.of_pure rfl⟩) (evalArgs_kw2 hall (thn h fun vs s1 h1 => thn h1 fun ks s2 h2 => ⟨trivial, h2⟩) he)
theorem pi_enumK {X : Cx} {e : Expr} {ta : TA} {p pos tpos kpos cpos : Pos} {elts : List Expr} {kk j : Nat} {k₀ : Int} (hg : Gl X "enumerate") (hm : X.mg "enumerate" = none) (hk : 0 ≤ k₀ ∧ k₀ < 1000) (ha : PA X [e] ta) (hs : starEach [e] X.env = [(false, eval e X.env)] := by rfl) :
    PI X (.Tuple elts kk tpos) (.Call (.Name "enumerate" p) [e] [⟨some "start", .Constant (.int k₀) j cpos, kpos⟩] pos) (iEnumK X.K k₀ ta) := by
  refine ⟨fun pins s σ H R I h => ?_⟩
  refine wpAny_Call_Name_kw (ld_blt I hg hm boot_enumerate (callWith_typeK rfl (thn (ha.run pos pins s σ H _ I h) fun us s1 ⟨vs, H1, I1, r1, q1⟩ => ?_) (by rw [hs]; rfl) hs))
  refine thn ((pk_cons (nm := some "start") (kpos := kpos) (pe_int (X := X) (i := k₀) (j := j) (pos := cpos)) pk_nil).run pos pins s1 σ H1 (fun zs H2 => zs = [.int k₀] ∧ H2 = H1) I1 ⟨rfl, rfl⟩) fun ks s2 ⟨zs, H2, I2, rz, ez, eH⟩ => ?_
  subst ez eH
  obtain ⟨a, xs, rfl, hq, q⟩ := q1
  obtain ⟨u, rfl, ru⟩ := vals1 r1
  obtain ⟨u2, rfl, t, rfl⟩ := vals1 rz
  cases ru
  obtain ⟨its, rv, p', hz⟩ := I2.list hq
  show wpAny _ _ (call (.type "enumerate") [.ref a] [(Str.ofString "start", .int k₀ t)]) _ _ _
  refine enum_begins_start (begins_list a its.toArray) p'.isList (by omega) (by omega) fun h' he hit hsz hkp => wpAny_pyIter_enum he ?_
  have I3 : Inv X pins σ H2 { s2 with heap := h' } := I2.kept (t' := s2.toks) hkp
  have la : a < s2.heap.objs.size := by obtain ⟨o, ho, _⟩ := p'.isList; exact Heap.lt_size ho
  refine ⟨s2.heap.objs.size + 1, [s2.heap.objs.size + 1, s2.heap.objs.size], _, _, H2, rfl, I3, turn_enumK k₀ a (s2.heap.objs.size + 1) s2.heap.objs.size, ⟨⟨.none, by rw [Int.natCast_zero, Int.add_zero]; exact he⟩, ⟨_, hit, rfl, rfl⟩, Nat.succ_ne_self _, Nat.ne_of_lt la, Nat.ne_of_gt (Nat.lt_succ_of_lt la)⟩, fun b hb => ?_, q⟩
  have hle : s2.heap.objs.size ≤ b := by
    rcases List.mem_cons.mp hb with z | z
    · rw [z]; exact Nat.le_add_right _ _
    · rw [List.mem_singleton.mp z]; exact Nat.le_refl _
  exact I2.fpOk hle (I2.hok.fresh hle)
/-- the walk of enumerate(list, start=k) as a for's reading -/
theorem for_enumK {K : PySem.W.Frag} {k₀ : Int} {a : Addr} {xs : List V} {g : TG} {tb : TS} {D : Ends} {σ : L2.St} {H : Hp} (Pv : Nat → L2.St → Hp → Prop) (h0 : Pv 0 σ H) (hl : ∀ i σ H, i ≤ xs.length → Pv i σ H → SqL K H a xs)
    (hs : ∀ i x σ H T, xs[i]? = some x → Pv i σ H → H T = none → g (.ref T) σ (upd H T (.tup [.int (k₀ + (i : Int)), x])) fun σ2 H2 => tb { nx := Pv (i + 1), rt := D.rt, bk := D.nx, ct := Pv (i + 1) } σ2 H2)
    (hd : ∀ σ H, Pv xs.length σ H → D.nx σ H) : ∃ W : Nat → Nat → L2.St → Hp → Prop, (∃ m, W 0 m σ H) ∧ ∀ i m σ H, W i m σ H →
      ((ItE K k₀ a).stop i H ∧ D.nx σ H) ∨ ((ItE K k₀ a).go i H ∧ ∃ Nx : L2.St → Hp → Prop, (∀ σ' H', Nx σ' H' → ∃ m', m' < m ∧ W (i + 1) m' σ' H') ∧ ∀ x H', (ItE K k₀ a).yld i H x H' → g x σ H' fun σ2 H2 => tb { D with nx := Nx, bk := D.nx, ct := Nx } σ2 H2) := by
  refine ⟨fun i m σ H => m + i = xs.length ∧ Pv i σ H, ⟨xs.length, Nat.add_zero _, h0⟩, ?_⟩
  rintro i m σ H ⟨hm, p⟩
  have q := hl i σ H (by omega) p
  cases m with
  | zero =>
    have e : i = xs.length := by omega
    subst e
    exact .inl ⟨⟨xs, q, Nat.le_refl _⟩, hd σ H p⟩
  | succ m =>
    have hlt : i < xs.length := by omega
    refine .inr ⟨⟨xs, xs[i], q, List.getElem?_eq_getElem hlt⟩, Pv (i + 1), fun σ' H' p' => ⟨m, Nat.lt_succ_self _, by omega, p'⟩, ?_⟩
    rintro _ _ ⟨T, x, rfl, hT, rfl, y⟩
    exact hs i x σ H T (y xs q) p hT
end Xe
set_option Elab.async false
set_option linter.all false
set_option maxRecDepth 100000
set_option maxHeartbeats 4000000
namespace Xq
open PySem PySem.Spec PyProof.Rows L2
section
variable {prog : Program} {w : World} {A : Around} {E : Value → Shared → Prop} {s : Shared} {K : PySem.W.Frag} {x y C : Addr} {ox oy : Obj} {od oe : Option Obj}
theorem no_tup {h : Heap} (I : PySem.W.InstAt h x ox C od) : ox.cls ≠ .type "tuple" := by rw [I.cls]; intro z; cases z
theorem call_eq1 {Q : Value → Shared → Prop} (X : K.In s.heap) (I : PySem.W.InstAt s.heap x ox C od) (hm : PySem.W.mroIn K C (.type "object") = some true) (hq : Q (.bool true) s) :
    wpAny (model prog w) A (call (.builtin "object.__eq__") [.ref x, .ref x]) Q E s :=
  wpAny_call (codeAny_call_builtin F.cmp_object.eq.plain F.cmpEntry_eq (PySem.W.check_slot F.cmpKind_eq F.cmpSplit_eq (I.type.andThen (PySem.W.looks_mroIn X hm)) (F.cmpArgs_eq _ _) (objEq_entry_same hq)))
theorem call_eq2 {Q : Value → Shared → Prop} (X : K.In s.heap) (I : PySem.W.InstAt s.heap x ox C od) (J : PySem.W.InstAt s.heap y oy C oe) (n : x ≠ y) (hm : PySem.W.mroIn K C (.type "object") = some true) (hq : Q .notImplemented s) :
    wpAny (model prog w) A (call (.builtin "object.__eq__") [.ref x, .ref y]) Q E s :=
  wpAny_call (codeAny_call_builtin F.cmp_object.eq.plain F.cmpEntry_eq (PySem.W.check_slot F.cmpKind_eq F.cmpSplit_eq (I.type.andThen (PySem.W.looks_mroIn X hm)) (F.cmpArgs_eq _ _) (objEq_entry_other n I.at_ J.at_ (no_tup I) hq)))
theorem rc_ins {Q : Value → Shared → Prop} (hu : A.units < cLine) (X : K.In s.heap) (I : PySem.W.InstAt s.heap x ox C od) (J : PySem.W.InstAt s.heap y oy C oe) (hm : PySem.W.mroIn K C (.type "object") = some true)
    (hs : PySem.W.findIn K (.ref C) "__eq__" = some (some (.builtin "object.__eq__"))) (hq : Q (.bool (decide (x = y))) s) : wpAny (model prog w) A (richCompare .Eq (.ref x) (.ref y)) Q E s := by
  have same : (Value.ref C != Value.ref C) = false := by simp
  by_cases n : x = y
  · subst n
    rw [decide_eq_true rfl] at hq
    have one : wpAny (model prog w) A (tryCompare (.ref x) "__eq__" (.ref x)) (fun r s' => r = some (.bool true) ∧ s' = s) E s := by
      unfold tryCompare
      exact wpAny_bind (HN.ifBound_objEq X I hs (call_eq1 X I hm (wpAny_pure ⟨rfl, rfl⟩)))
    simp only [richCompare, cmpInfo_Eq, oneThing_ref]
    refine wpAny_holding (wpAny_bind (wpAny_cRoomFor hu (wpAny_bind (I.type.here (wpAny_bind (I.type.here ?_))))))
    rw [same]
    refine wpAny_bind (wpAny_pure ?_)
    simp only [Bool.false_eq_true, if_false]
    refine wpAny_bind (wpAny_mono one (fun r s1 z => ?_) fun _ _ e => e)
    obtain ⟨rfl, rfl⟩ := z
    exact wpAny_pure hq
  · rw [decide_eq_false n] at hq
    have one : wpAny (model prog w) A (tryCompare (.ref x) "__eq__" (.ref y)) (fun r s' => r = none ∧ s' = s) E s := by
      unfold tryCompare
      exact wpAny_bind (HN.ifBound_objEq X I hs (call_eq2 X I J n hm (wpAny_pure ⟨rfl, rfl⟩)))
    have two : wpAny (model prog w) A (tryCompare (.ref y) "__eq__" (.ref x)) (fun r s' => r = none ∧ s' = s) E s := by
      unfold tryCompare
      exact wpAny_bind (HN.ifBound_objEq X J hs (call_eq2 X J I (Ne.symm n) hm (wpAny_pure ⟨rfl, rfl⟩)))
    simp only [richCompare, cmpInfo_Eq, oneThing_ref]
    refine wpAny_holding (wpAny_bind (wpAny_cRoomFor hu (wpAny_bind (I.type.here (wpAny_bind (J.type.here ?_))))))
    rw [same]
    refine wpAny_bind (wpAny_pure ?_)
    simp only [Bool.false_eq_true, if_false, Bool.not_false, if_true]
    refine wpAny_bind (wpAny_mono one (fun r s1 z => ?_) fun _ _ e => e)
    obtain ⟨rfl, rfl⟩ := z
    refine wpAny_bind (wpAny_mono two (fun r s1 z => ?_) fun _ _ e => e)
    obtain ⟨rfl, rfl⟩ := z
    exact wpAny_bind (wpAny_rule (wpAny_bind (wpAny_isSame_ref_other n I.at_ J.at_ (no_tup I) (wpAny_pure hq))))
end
/-- the class C has no == of its own -/
structure EqC (K : PySem.W.Frag) (C : Addr) : Prop where
  mro : PySem.W.mroIn K C (.type "object") = some true
  eq : PySem.W.findIn K (.ref C) "__eq__" = some (some (.builtin "object.__eq__"))
def rEqI (K : PySem.W.Frag) : R2 := fun x y H Q => ∃ (a b C dx dy : Addr) (fs gs : List (Str × V)), x = .ref a ∧ y = .ref b ∧ H a = some (.ins C dx fs) ∧ H b = some (.ins C dy gs) ∧ EqC K C ∧ Q (.bl (decide (a = b))) H
theorem op_eqI {X : Cx} (hu : X.A.units < cLine) : OpR X (compareOp .Eq) (rEqI X.K) := by
  intro pins s σ H x y v u Q I rx ry h
  obtain ⟨a, b, C, dx, dy, fs, gs, rfl, rfl, ha, hb, T, q⟩ := h
  cases rx
  cases ry
  obtain ⟨mA, O, _⟩ := ins_get I.hok ha
  obtain ⟨mB, O', _⟩ := ins_get I.hok hb
  obtain ⟨od, J, _⟩ := O.look
  obtain ⟨od', J', _⟩ := O'.look
  exact rc_ins hu I.kIn J J' T.mro T.eq ⟨.bl (decide (a = b)), H, I, rfl, q⟩
end Xq
set_option Elab.async false
set_option linter.all false
set_option maxRecDepth 100000
set_option maxHeartbeats 4000000
namespace Xd
open PySem PySem.Spec PyProof.Rows L2
theorem turn_out (kx vx t0 i0 t1 i1 : Expr) (scope : Scope) (pos : Pos) (it acc : Value) (env : Env) :
    compTurn (.DictComp kx vx [⟨t0, i0, [], 0⟩, ⟨t1, i1, [], 0⟩] scope pos) 0 it acc env = (do
      standAt i0.pos
      match ← pyNext it with
      | none => pure (.done .next)
      | some v => do
        letOwnedTupleGo t0 it v
        assign t0 env v
        let x ← eval i1 env
        standAt i1.pos
        let z ← foldedSetIterable i1 env x
        let _ ← runOwn (.compStart (.DictComp kx vx [⟨t0, i0, [], 0⟩, ⟨t1, i1, [], 0⟩] scope pos) 1 (← holding [z] (pyIter z)) acc env) env
        again (.compLoop (.DictComp kx vx [⟨t0, i0, [], 0⟩, ⟨t1, i1, [], 0⟩] scope pos) 0 it acc env)) := by rfl
theorem turn_in (kx vx t0 i0 t1 i1 : Expr) (scope : Scope) (pos : Pos) (it : Value) (D : Addr) (env : Env) :
    compTurn (.DictComp kx vx [⟨t0, i0, [], 0⟩, ⟨t1, i1, [], 0⟩] scope pos) 1 it (.ref D) env = (do
      standAt i1.pos
      match ← pyNext it with
      | none => pure (.done .next)
      | some v => do
        letOwnedTupleGo t1 it v
        assign t1 env v
        (do
          let kv ← eval kx env
          let vv ← holding [kv] (eval vx env)
          standAt { kx.pos with endLine := vx.pos.endLine, endCol := vx.pos.endCol }
          holding [kv, vv] (dictSet D kv vv))
        again (.compLoop (.DictComp kx vx [⟨t0, i0, [], 0⟩, ⟨t1, i1, [], 0⟩] scope pos) 1 it (.ref D) env)) := by rfl
section
variable {prog : Program} {w : World} {A : Around} {R : Result → Shared → Prop} {s : Shared} {kx vx t0 i0 t1 i1 : Expr} {scope : Scope} {pos : Pos} {it acc : Value} {env : Env} {D : Addr}
theorem loop_out (hs : ∀ x, foldedSetIterable i1 env x = pure x) (I : Nat → Shared → Prop)
    (turn : ∀ n s, I n s → wpAny (model prog w) A (pyNext it) (fun r s₁ => (r = none → R (.ok .next) s₁) ∧ ∀ v, r = some v →
        wpAny (model prog w) A (letOwnedTupleGo t0 it v) (fun _ s₂ => wpAny (model prog w) A (assign t0 env v) (fun _ s₃ => wpAny (model prog w) A (eval i1 env) (fun x s₄ => wpAny (model prog w) A (pyIter x) (fun it1 s₅ =>
          codeAny (model prog w) A (.compStart (.DictComp kx vx [⟨t0, i0, [], 0⟩, ⟨t1, i1, [], 0⟩] scope pos) 1 it1 acc env) (fun r s' => (∃ f, r = .ok f) ∧ ∃ m, m < n ∧ I m s') s₅)
            (fun _ _ => False) s₄) (fun _ _ => False) s₃) (fun _ _ => False) s₂) (fun _ _ => False) s₁) (fun _ _ => False) s) (n : Nat) (h : I n s) :
    codeAny (model prog w) A (.compLoop (.DictComp kx vx [⟨t0, i0, [], 0⟩, ⟨t1, i1, [], 0⟩] scope pos) 0 it acc env) R s := by
  refine codeAny_loop rfl I (fun n s hI => ?_) n h
  show wpAny _ A ((compTurn (.DictComp kx vx [⟨t0, i0, [], 0⟩, ⟨t1, i1, [], 0⟩] scope pos) 0 it acc env).onRaise (fun x => do noteFrame x env; theTreesLotGoes x)) _ _ s
  refine wpAny_noted ?_
  rw [turn_out]
  refine wpAny_bind (wpAny_standAt (wpAny_bind (thnF (turn n s hI) fun r s₁ h₁ => ?_)))
  obtain ⟨hn, hv⟩ := h₁
  cases r with
  | none => exact wpAny_pure (hn rfl)
  | some v =>
    refine wpAny_bind (thnF (hv v rfl) fun _ s₂ h₂ => wpAny_bind (thnF h₂ fun _ s₃ h₃ => wpAny_bind (thnF h₃ fun x s₄ h₄ => ?_)))
    refine wpAny_bind (wpAny_standAt (wpAny_bind (wpAny_of_eq (hs x) (wpAny_bind (wpAny_holding (thnF h₄ fun it1 s₅ h₅ => ?_))))))
    refine wpAny_bind (wpAny_runOwn ?_)
    rw [Around.mark_none]
    refine codeAny_mono h₅ fun r s' hr => ?_
    obtain ⟨⟨f, rfl⟩, hr⟩ := hr
    first
      | exact wpAny_pure ⟨rfl, hr⟩
      | exact wpAny_bind (wpAny_pure (wpAny_pure ⟨rfl, hr⟩))
theorem loop_in (I : Nat → Shared → Prop)
    (turn : ∀ n s, I n s → wpAny (model prog w) A (pyNext it) (fun r s₁ => (r = none → R (.ok .next) s₁) ∧ ∀ v, r = some v →
        wpAny (model prog w) A (letOwnedTupleGo t1 it v) (fun _ s₂ => wpAny (model prog w) A (assign t1 env v) (fun _ s₃ => wpAny (model prog w) A (eval kx env) (fun kv s₄ => wpAny (model prog w) A (eval vx env) (fun vv s₅ =>
          wpAny (model prog w) A (dictSet D kv vv) (fun _ s₆ => ∃ m, m < n ∧ I m s₆) (fun _ _ => False) s₅) (fun _ _ => False) s₄) (fun _ _ => False) s₃) (fun _ _ => False) s₂) (fun _ _ => False) s₁) (fun _ _ => False) s) (n : Nat) (h : I n s) :
    codeAny (model prog w) A (.compLoop (.DictComp kx vx [⟨t0, i0, [], 0⟩, ⟨t1, i1, [], 0⟩] scope pos) 1 it (.ref D) env) R s := by
  refine codeAny_loop rfl I (fun n s hI => ?_) n h
  show wpAny _ A ((compTurn (.DictComp kx vx [⟨t0, i0, [], 0⟩, ⟨t1, i1, [], 0⟩] scope pos) 1 it (.ref D) env).onRaise (fun x => do noteFrame x env; theTreesLotGoes x)) _ _ s
  refine wpAny_noted ?_
  rw [turn_in]
  refine wpAny_bind (wpAny_standAt (wpAny_bind (thnF (turn n s hI) fun r s₁ h₁ => ?_)))
  obtain ⟨hn, hv⟩ := h₁
  cases r with
  | none => exact wpAny_pure (hn rfl)
  | some v =>
    refine wpAny_bind (thnF (hv v rfl) fun _ s₂ h₂ => wpAny_bind (thnF h₂ fun _ s₃ h₃ => wpAny_bind (wpAny_bind (thnF h₃ fun kv s₄ h₄ => ?_))))
    exact wpAny_bind (wpAny_holding (thnF h₄ fun vv s₅ h₅ => wpAny_bind (wpAny_standAt (wpAny_holding (thnF h₅ fun _ s₆ h₆ => wpAny_pure ⟨rfl, h₆⟩)))))
theorem start_in (h0 : codeAny (model prog w) A (.compLoop (.DictComp kx vx [⟨t0, i0, [], 0⟩, ⟨t1, i1, [], 0⟩] scope pos) 1 it acc env) R s)
    (h : wpAny (model prog w) A (pyIter it) (fun it' s' => codeAny (model prog w) A (.compLoop (.DictComp kx vx [⟨t0, i0, [], 0⟩, ⟨t1, i1, [], 0⟩] scope pos) 1 it' acc env) R s') (fun _ _ => False) s) :
    codeAny (model prog w) A (.compStart (.DictComp kx vx [⟨t0, i0, [], 0⟩, ⟨t1, i1, [], 0⟩] scope pos) 1 it acc env) R s := by
  refine codeAny_of_tree ?_
  show wpAny _ _ ((compStart (.DictComp kx vx [⟨t0, i0, [], 0⟩, ⟨t1, i1, [], 0⟩] scope pos) 1 it acc env).onRaise (fun x => do noteFrame x env; standAt theWindowsPlace)) _ _ s
  refine wpAny_notedAt ?_
  unfold compStart
  show wpAny _ _ (ask >>= _) _ _ s
  refine wpAny_bind (wpAny_askSetting (wpAny_ite ?_))
  split
  · first
      | exact wpAny_bind (wpAny_pure (wpAny_pure (And.intro rfl h0)))
      | exact wpAny_pure (And.intro rfl h0)
  · have go : ∀ {E : Value → Shared → Prop}, wpAny (model prog w) A (do standAt i1.pos; again (.compLoop (.DictComp kx vx [⟨t0, i0, [], 0⟩, ⟨t1, i1, [], 0⟩] scope pos) 1 (← pyIter it) acc env)) (fun fin s' => match fin with
          | .done f => R (.ok f) s'
          | .again c' => c'.quiet = true ∧ codeAny (model prog w) A c' R s') E s := wpAny_bind (wpAny_standAt (wpAny_bind (thnF h fun it' s' h' => wpAny_pure (And.intro rfl h'))))
    first
      | exact wpAny_bind (wpAny_rule go)
      | exact wpAny_bind (wpAny_rule (wpAny_bind (wpAny_standAt (wpAny_bind (thnF h fun it' s' h' => wpAny_pure (And.intro rfl h'))))))
end

section
variable {X : Cx} {pins : List (Addr × Obj)} {σ : L2.St} {H : Hp} {s : Shared}
theorem set_tup {E : Value → Shared → Prop} {D b : Addr} {kvs : List (List Key × V)} {k : List Key} {v : V} {r : Value} {Q : Unit → Shared → Prop} (hu : X.A.units < cLine) (I : Inv X pins σ H s) (hD : H D = some (.dT kvs)) (hb : H b = some (.tup (k.map kV))) (hz : kvs.length < sizeLine)
    (rv : RelV v r) (h : ∀ s', Inv X pins σ (upd H D (.dT (putK kvs k v))) s' → Q () s') : wpAny (model X.prog X.w) X.A (dictSet D (.ref b) r) Q E s := by
  obtain ⟨z, hd, xs, rel, dd⟩ := dt_of I.hok hD
  have hx : xs.length ≤ sizeLine := by rw [← Paired.length rel]; exact z
  have hl : (putK kvs k v).length ≤ sizeLine := by have := length_putK kvs k v; omega
  refine wpAny_dictSet_heap (hsz := hx) hu (key_of I.hok hb) dd fun h' dd' hs => h _ ?_
  obtain ⟨q, es, ep, hq, h2, h3, h4, _, h5⟩ := dd'
  refine d_write I (by rw [hD]; exact True.intro) hs ⟨q, hq⟩ ⟨hl, hd, _, (rel.put k hb rv).keeps fun c ys ec => ?_, q, es, ep, hq, h2, h3, h4, h5⟩
  rw [upd_ne (ne_of ec hD (fun z => nomatch z))]
  exact ec
end
def tDc2 (wi : TI) (g : TG) (wi1 : TI) (g1 : TG) (tk tv : TE) (vs vs1 : List Nat) : TE := fun σ H Q => wi σ H fun J H1 => ∀ D, H1 D = none → ∃ W : Nat → Nat → Hp → Prop, (∃ m, W 0 m (upd H1 D (.dT []))) ∧ ∀ i m H, W i m H →
  (J.stop i H ∧ Q (.ref D) H) ∨ (J.go i H ∧ ∃ Nx : Hp → Prop, (∀ H', Nx H' → ∃ m', m' < m ∧ W (i + 1) m' H') ∧ ∀ x H', J.yld i H x H' → g x (wipe σ vs) H' fun σ2 H2 => wipe σ2 vs = wipe σ vs ∧
    wi1 σ2 H2 fun J1 H3 => ∃ W1 : Nat → Nat → Hp → Prop, (∃ m, W1 0 m H3) ∧ ∀ j k H, W1 j k H → (J1.stop j H ∧ Nx H) ∨ (J1.go j H ∧ ∃ Nx1 : Hp → Prop, (∀ H', Nx1 H' → ∃ k', k' < k ∧ W1 (j + 1) k' H') ∧
      ∀ y H', J1.yld j H y H' → g1 y (wipe σ2 vs1) H' fun σ3 H4 => wipe σ3 vs1 = wipe σ2 vs1 ∧ tk σ3 H4 fun ky H5 => tv σ3 H5 fun z H6 => ∃ (b : Addr) (key : List Key) (kvs : List (List Key × V)), ky = .ref b ∧ H6 b = some (.tup (key.map kV)) ∧
        H6 D = some (.dT kvs) ∧ kvs.length < sizeLine ∧ Nx1 (upd H6 D (.dT (putK kvs key z)))))
section
variable {X : Cx}
theorem pe_dc2 {kx vx t0 i0 t1 i1 : Expr} {scope : Scope} {own : List (Str × Nat)} {vs1 : List Nat} {pos : Pos} {wi wi1 : TI} {g g1 : TG} {tk tv : TE} (hc : X.calm = true) (hu : X.A.units < cLine) (hN : X.N.Nodup) (hi : PI X t0 i0 wi) (ok : BlkOk X.N X.env.scope scope own) (hv : ∀ i ∈ vs1, i ∈ own.map (·.2))
    (hg : ∀ (s : Shared) (H : Hp) (C : Addr) (cl : List (Str × Addr)) (fp : List Addr), PG (X.blk s H scope (compEnvC scope cl C X.env) fp) t0 g)
    (hi1 : ∀ (s : Shared) (H : Hp) (C : Addr) (cl : List (Str × Addr)) (fp : List Addr), PI (X.blk s H scope (compEnvC scope cl C X.env) fp) t1 i1 wi1)
    (hg1 : ∀ (s : Shared) (H : Hp) (C : Addr) (cl : List (Str × Addr)) (fp : List Addr), PG (X.blk s H scope (compEnvC scope cl C X.env) fp) t1 g1)
    (hk : ∀ (s : Shared) (H : Hp) (C : Addr) (cl : List (Str × Addr)) (fp : List Addr), PE (X.blk s H scope (compEnvC scope cl C X.env) fp) kx tk)
    (he : ∀ (s : Shared) (H : Hp) (C : Addr) (cl : List (Str × Addr)) (fp : List Addr), PE (X.blk s H scope (compEnvC scope cl C X.env) fp) vx tv)
    (hs : ∀ x, foldedSetIterable i0 X.env x = pure x := by intro _; rfl) (hs1 : ∀ env x, foldedSetIterable i1 env x = pure x := by intro _ _; rfl) :
    PE X (.DictComp kx vx [⟨t0, i0, [], 0⟩, ⟨t1, i1, [], 0⟩] scope pos) (tDc2 wi g wi1 g1 tk tv (own.map (·.2)) vs1) := by
  refine ⟨fun pins s σ H Q I h => ?_⟩
  rw [arm_eval_DictComp]
  have clo : ∀ y ∈ scope.names, y.2 = .free → ∃ c, X.env.cells.lookup y.1 = some c := fun y hy e => (ok.free y hy e).elim (fun k => I.ok.has _ (.inl k)) fun k => I.ok.has _ (.inr k)
  refine wpAny_comprehension_free rfl hs (closure_ok clo) ok.kind (fun y hy e => by rw [ok.uniq y hy, e]) (thn (hi.run pins s σ H _ I h) fun xv s1 hx => thn hx fun itv s2 h2 => ?_)
  obtain ⟨it, fp, tn, J, H2, rfl, I2, T, st2, f2, q⟩ := h2
  refine wpAny_newObj_type (newEnv_comp ?_)
  have hDn : H2 s2.heap.objs.size = none := I2.hok.fresh (Nat.le_refl _)
  obtain ⟨W, ⟨m0, w0⟩, turn⟩ := q _ hDn
  have I3 : Inv X pins σ (upd H2 s2.heap.objs.size (.dT [])) { s2 with heap := s2.heap.push { cls := .type "dict", data := .dict #[] } } :=
    I2.laid (t' := s2.toks) (fun b o e => Heap.get?_push_of_some _ e) (Nat.le_refl _) (dt_empty s2.heap I2.big)
  generalize eD : s2.heap.objs.size = D at *
  generalize e3 : ({ s2 with heap := s2.heap.push { cls := .type "dict", data := .dict #[] } } : Shared) = s3 at *
  have h3 : s3.heap = s2.heap.push { cls := .type "dict", data := .dict #[] } := by rw [← e3]
  have at2 : ∀ b ∈ fp, b < D := fun b hb => by
    obtain ⟨o, e, _⟩ := T.obj _ _ st2 b hb
    rw [← eD]
    exact Heap.lt_size e
  have f3 : ∀ b ∈ fp, FpOk X pins (upd H2 D (.dT [])) b ∧ b < s3.heap.objs.size := fun b hb => by
    refine ⟨⟨by rw [upd_ne (Nat.ne_of_lt (at2 b hb))]; exact (f2 b hb).1, (f2 b hb).2⟩, ?_⟩
    rw [h3, Heap.size_push, eD]
    exact Nat.lt_succ_of_lt (at2 b hb)
  have st3 : tn 0 s3.heap := T.keep _ _ _ st2 fun b _ o e => by rw [h3]; exact Heap.get?_push_of_some _ e
  have I4 := block_start I3 ok hN f3
  have pg := hg s3 (upd H2 D (.dT [])) s3.heap.objs.size (cellsFrom (s3.heap.objs.size + 1) scope.names (cloFrom X.env.cells scope.names [])) fp
  have pi1 := hi1 s3 (upd H2 D (.dT [])) s3.heap.objs.size (cellsFrom (s3.heap.objs.size + 1) scope.names (cloFrom X.env.cells scope.names [])) fp
  have pg1 := hg1 s3 (upd H2 D (.dT [])) s3.heap.objs.size (cellsFrom (s3.heap.objs.size + 1) scope.names (cloFrom X.env.cells scope.names [])) fp
  have pk := hk s3 (upd H2 D (.dT [])) s3.heap.objs.size (cellsFrom (s3.heap.objs.size + 1) scope.names (cloFrom X.env.cells scope.names [])) fp
  have pv := he s3 (upd H2 D (.dT [])) s3.heap.objs.size (cellsFrom (s3.heap.objs.size + 1) scope.names (cloFrom X.env.cells scope.names [])) fp
  have nfp : ∀ b ∈ fp, (upd H2 D (.dT [])) b = none := fun b hb => (f3 b hb).1.1
  show codeAny _ _ (.compStart _ 0 (.ref it) (.ref D) (compEnvC scope (cellsFrom (s3.heap.objs.size + 1) scope.names (cloFrom X.env.cells scope.names [])) s3.heap.objs.size X.env)) (compPost (model X.prog X.w) X.A X.xe _ _ (.ref D) s3.heap.objs.size) { s3 with heap := pushCells (s3.heap.push { cls := .type "dict", data := .dict #[] }) scope.names }
  generalize hce : compEnvC scope (cellsFrom (s3.heap.objs.size + 1) scope.names (cloFrom X.env.cells scope.names [])) s3.heap.objs.size X.env = ce at I4 pg pi1 pg1 pk pv ⊢
  have cL : ce.locals = s3.heap.objs.size := by subst hce; rfl
  generalize eH : upd H2 D (.dT []) = H3 at I3 I4 pg pi1 pg1 pk pv w0 nfp f3
  generalize e4 : ({ s3 with heap := pushCells (s3.heap.push { cls := .type "dict", data := .dict #[] }) scope.names } : Shared) = s4 at I4 ⊢
  have st4 : tn 0 s4.heap := T.keep _ _ _ st3 fun b _ o e => by rw [← e4]; exact pushCells_keeps _ _ _ _ (Heap.get?_push_of_some _ e)
  have stat : ∀ {σ' : L2.St} {H' : Hp} {s' : Shared}, Inv (X.blk s3 H3 scope ce fp) [] σ' H' s' → (∀ b ∈ fp, H' b = none) → ∀ b ∈ fp, FpOk (X.blk s3 H3 scope ce fp) [] H' b := fun I' hn b hb =>
    ⟨hn b hb, (I'.ok.exf b hb).1, I'.ok.exfs b hb, .inl hb, fun x c e => (I'.ok.exf b hb).2 x c e, fun p hp => absurd (show p ∈ ([] : List (Addr × Obj)) ++ [] from hp) (by simp)⟩
  have fin0 : ∀ {n i : Nat} {Nx : Hp → Prop} {s7 : Shared}, (∀ H', Nx H' → ∃ m', m' < n ∧ W (i + 1) m' H') → tn (i + 1) s7.heap → ∀ {τ : L2.St} {s' : Shared} {H' : Hp}, Inv (X.blk s3 H3 scope ce fp) ([] ++ pinsAt fp s7.heap) τ H' s' → (wipe σ (own.map (·.2))).length = τ.length →
      (∀ (j : Nat) v, (wipe σ (own.map (·.2)))[j]? = some (some v) → τ[j]? = some (some v)) → Nx H' → ∃ m, m < n ∧ ∃ i H', Inv (X.blk s3 H3 scope ce fp) [] (wipe σ (own.map (·.2))) H' s' ∧ tn i s'.heap ∧ (∀ b ∈ fp, H' b = none) ∧ W i m H' := by
    intro n i Nx s7 hNx st7 τ s' H' I' hl hk nx
    obtain ⟨m', hm, w'⟩ := hNx H' nx
    have held : ∀ b ∈ fp, ∀ o, s7.heap.get? b = some o → s'.heap.get? b = some o ∧ H' b = none := fun b hb o e =>
      let z := I'.pin (b, o) (List.mem_append_right _ (List.mem_append_right _ (mem_pinsAt hb e)))
      ⟨z.1, z.2.1⟩
    refine ⟨m', hm, i + 1, H', (I'.unpinned (pins := [])).weak hl hk, T.keep _ _ _ st7 fun b hb o e => (held b hb o e).1, fun b hb => ?_, w'⟩
    obtain ⟨o, e, _⟩ := T.obj _ _ st7 b hb
    exact (held b hb o e).2
  have loop : codeAny (model X.prog X.w) X.A (.compLoop (.DictComp kx vx [⟨t0, i0, [], 0⟩, ⟨t1, i1, [], 0⟩] scope pos) 0 (.ref it) (.ref D) ce) (compPost (model X.prog X.w) X.A X.xe none (EP X pins σ Q) (.ref D) s3.heap.objs.size) s4 := by
    refine loop_out (hs1 ce) (fun n s' => ∃ i H', Inv (X.blk s3 H3 scope ce fp) [] (wipe σ (own.map (·.2))) H' s' ∧ tn i s'.heap ∧ (∀ b ∈ fp, H' b = none) ∧ W i n H') ?_ m0 ⟨0, H3, I4, st4, nfp, w0⟩
    rintro n s5 ⟨i, H5, I5, st5, n5, w5⟩
    rcases turn i n H5 w5 with ⟨stop, qq⟩ | ⟨go, Nx, hNx, step⟩
    · refine thnF (T.done (X.blk s3 H3 scope ce fp) rfl rfl rfl hc i [] s5 _ H5 (fun _ _ => False) I5 (stat I5 n5) st5 stop) fun r s6 ⟨hr, I6⟩ => ⟨fun _ => ?_, fun v z => by rw [hr] at z; cases z⟩
      have I7 : Inv X pins σ H5 s6 := I3.call' (ch := fp) I6.os I6.base I6.hok I6.bare fun b hb => ⟨(f3 b hb).1.2.2.2.1, (f3 b hb).1.2.1, (f3 b hb).1.2.2.2.2.1, (f3 b hb).1.2.2.2.2.2⟩
      have nC : H5 s3.heap.objs.size = none := by
        have z : H5 ce.locals = none := I6.free
        rw [cL] at z
        exact z
      obtain ⟨m, hn, _⟩ := I6.loc
      have hn : s6.heap.Ns ce.locals m := hn
      rw [cL] at hn
      obtain ⟨g0, g1, g2, g3, g4, g5⟩ := I3.fpOk (Nat.le_refl _) nC
      exact ⟨m, hn, fun h'' sb => ⟨.ref D, H5, I7.turned (t' := s6.toks) (fun b o hb e => (sb.2 b hb).trans e) g0 g1 g3 g4 g5, rfl, qq⟩⟩
    · refine thnF (T.item (X.blk s3 H3 scope ce fp) rfl rfl rfl hc i [] s5 _ H5 (fun _ _ => False) I5 (stat I5 n5) st5 go) fun r s6 ⟨u, hr, h6⟩ => ⟨fun z => (by rw [hr] at z; cases z), fun v z => ?_⟩
      rw [hr] at z
      cases z
      refine thnF h6 fun _ s7 ⟨x, H7, I7, r7, y7, st7, n7⟩ => ?_
      have I7' := I7.pinned (stat I7 n7) (T.obj _ _ st7)
      refine thnF (pg.run _ s7 _ H7 x u _ I7' r7 (step x H7 y7)) fun _ s8 ⟨σ8, H8, I8, hw8, q8⟩ => ?_
      have hl8 : (wipe σ (own.map (·.2))).length = σ8.length := by rw [← hw8, wipe_length]
      have hk9 : ∀ (j : Nat) v, (wipe σ (own.map (·.2)))[j]? = some (some v) → (wipe σ8 vs1)[j]? = some (some v) := fun j v e => by
        rw [← hw8] at e
        obtain ⟨e1, e2⟩ := wipe_some e
        rw [wipe_out fun z => e2 (hv j z)]
        exact e1
      refine thnF (pi1.run _ s8 σ8 H8 _ I8 q8) fun xv s9 hx => thnF hx fun itv s10 h10 => ?_
      obtain ⟨it1, fp1, tn1, J1, H10, rfl, I10, T1, st10, f10, W1, ⟨m1, w1⟩, turn1⟩ := h10
      have stat1 : ∀ {H' : Hp}, (∀ b ∈ fp1, H' b = none) → ∀ b ∈ fp1, FpOk (X.blk s3 H3 scope ce fp) ([] ++ pinsAt fp s7.heap) H' b := fun hn b hb => ⟨hn b hb, (f10 b hb).2⟩
      have inner : codeAny (model X.prog X.w) X.A (.compLoop (.DictComp kx vx [⟨t0, i0, [], 0⟩, ⟨t1, i1, [], 0⟩] scope pos) 1 (.ref it1) (.ref D) ce)
          (fun r s' => (∃ f, r = .ok f) ∧ ∃ m, m < n ∧ ∃ i H', Inv (X.blk s3 H3 scope ce fp) [] (wipe σ (own.map (·.2))) H' s' ∧ tn i s'.heap ∧ (∀ b ∈ fp, H' b = none) ∧ W i m H') s10 := by
        refine loop_in (fun k s' => ∃ j H', Inv (X.blk s3 H3 scope ce fp) ([] ++ pinsAt fp s7.heap) (wipe σ8 vs1) H' s' ∧ tn1 j s'.heap ∧ (∀ b ∈ fp1, H' b = none) ∧ W1 j k H') ?_ m1 ⟨0, H10, I10.weak (wipe_length _ _) (fun j v e => (wipe_some e).1), st10, fun b hb => (f10 b hb).1, w1⟩
        rintro k s12 ⟨j, H12, I12, st12, n12, w12⟩
        rcases turn1 j k H12 w12 with ⟨stop1, nx1⟩ | ⟨go1, Nx1, hNx1, step1⟩
        · refine thnF (T1.done (X.blk s3 H3 scope ce fp) rfl rfl rfl hc j _ s12 (wipe σ8 vs1) H12 (fun _ _ => False) I12 (stat1 n12) st12 stop1) fun r s13 hrI => ?_
          obtain ⟨hr, I13⟩ := hrI
          refine ⟨fun _ => ?_, fun v z => ?_⟩
          · exact ⟨⟨_, rfl⟩, fin0 hNx st7 I13 (hl8.trans (wipe_length σ8 vs1).symm) hk9 nx1⟩
          · rw [hr] at z
            cases z
        · refine thnF (T1.item (X.blk s3 H3 scope ce fp) rfl rfl rfl hc j _ s12 (wipe σ8 vs1) H12 (fun _ _ => False) I12 (stat1 n12) st12 go1) fun r s13 ⟨u1, hr, h13⟩ => ⟨fun z => (by rw [hr] at z; cases z), fun v z => ?_⟩
          rw [hr] at z
          cases z
          refine thnF h13 fun _ s14 ⟨x1, H14, I14, r14, y14, st14, n14⟩ => ?_
          have I14' := I14.pinned (stat1 n14) (T1.obj _ _ st14)
          refine thnF (pg1.run _ s14 (wipe σ8 vs1) H14 x1 u1 _ I14' r14 (step1 x1 H14 y14)) fun _ s15 ⟨σ15, H15, I15, hw15, q15⟩ => ?_
          refine thnF (pk.run _ s15 σ15 H15 _ I15 q15) fun kv s16 ⟨yk, H16, I16, r16, q16⟩ => ?_
          refine thnF (pv.run _ s16 σ15 H16 _ I16 q16) fun vv s17 ⟨yv, H17, I17, r17, b, key, kvs, ek, hb, hD, hz, nx⟩ => ?_
          subst ek
          obtain rfl : kv = Value.ref b := r16
          refine set_tup (X := X.blk s3 H3 scope ce fp) hu I17 hD hb hz r17 fun s18 I18 => ?_
          obtain ⟨m', hm, w'⟩ := hNx1 _ nx
          have held : ∀ c ∈ fp1, ∀ o, s14.heap.get? c = some o → s18.heap.get? c = some o ∧ (upd H17 D (.dT (putK kvs key yv))) c = none := fun c hc o e =>
            let z := I18.pin (c, o) (List.mem_append_right _ (List.mem_append_right _ (mem_pinsAt hc e)))
            ⟨z.1, z.2.1⟩
          refine ⟨m', hm, j + 1, _, I18.unpinned.weak (by rw [← hw15, wipe_length]) (fun j v e => by rw [← hw15] at e; exact (wipe_some e).1), T1.keep _ _ _ st14 fun c hc o e => (held c hc o e).1, fun c hc => ?_, w'⟩
          obtain ⟨o, e, _⟩ := T1.obj _ _ st14 c hc
          exact (held c hc o e).2
      exact start_in inner (T1.self X.A 0 _ _ _ st10 inner)
  exact codeAny_compStart_dict loop (T.self X.A 0 _ _ _ st4 loop)
end
end Xd
set_option Elab.async false
set_option linter.all false
set_option maxRecDepth 100000
set_option maxHeartbeats 4000000
namespace Xk
open PySem PySem.Spec PyProof.Rows L2
/-- the written dict at p has, by a text, what g tells -/
def KHas (K : PySem.W.Frag) (w : World) (p : Addr) (g : Str → Option V) : Prop :=
  ∃ es n, K.lookup p = some ⟨.type "dict", none, .dict es n, #[]⟩ ∧ PySem.W.KeysLit w.params es.toList ∧ (p == sysModules) = false ∧ ∀ z, RelO (g z) (findBy Value.isStrOf es z)
theorem isSome_of {o : Option V} {u : Option Value} (r : RelO o u) : u.isSome = o.isSome := by
  cases o <;> cases u <;> first | rfl | exact r.elim
section
variable {X : Cx}
def rInK (K : PySem.W.Frag) (w : World) (neg : Bool) : R2 := fun x y H Q => ∃ (z : Str) (p : Addr) (g : Str → Option V), x = .str z ∧ y = .ref p ∧ KHas K w p g ∧ Q (.bl (if neg then !(g z).isSome else (g z).isSome)) H
theorem op_notInK : OpR X (compareOp .NotIn) (rInK X.K X.w true) := by
  intro pins s σ H x y v u Q I rx ry h
  obtain ⟨z, p, g, rfl, rfl, ⟨es, n, hl, hk, hd, hg⟩, q⟩ := h
  obtain ⟨t, rfl⟩ := rx
  obtain rfl : u = Value.ref p := ry
  refine wpAny_notIn_of (strKind_is X.prog X.w z t) hd (PySem.W.mapOf_K (prog := X.prog) (w := X.w) I.kIn hl hk) ⟨_, H, I.tok _, ?_, q⟩
  show Value.bool _ = Value.bool _
  rw [isSome_of (hg z)]
  rfl
theorem op_inK : OpR X (compareOp .In) (rInK X.K X.w false) := by
  intro pins s σ H x y v u Q I rx ry h
  obtain ⟨z, p, g, rfl, rfl, ⟨es, n, hl, hk, hd, hg⟩, q⟩ := h
  obtain ⟨t, rfl⟩ := rx
  obtain rfl : u = Value.ref p := ry
  refine wpAny_in_of (strKind_is X.prog X.w z t) hd (PySem.W.mapOf_K (prog := X.prog) (w := X.w) I.kIn hl hk) ⟨_, H, I.tok _, ?_, q⟩
  show Value.bool _ = Value.bool _
  rw [isSome_of (hg z)]
  rfl
def tKGet (K : PySem.W.Frag) (w : World) (to : TE) (ta : TA) : TE := fun σ H Q => to σ H fun x H1 => ∃ (p : Addr) (g : Str → Option V), x = .ref p ∧ KHas K w p g ∧ ta σ H1 fun vs H2 => ∃ (z : Str) (d : V), vs = [.str z, d] ∧ Q ((g z).getD d) H2
theorem pe_kget {o e f : Expr} {to : TE} {ta : TA} {apos cpos : Pos} (ho : PE X o to) (ha : PA X [e, f] ta)
    (hbase : attributeBase o "get" X.env (eval o X.env) = eval o X.env := by rfl)
    (hfew : ((backTo cpos (starEach [e, f] X.env)).all (fun x => !x.1) && (backToKw cpos (keywordEach [] X.env)).all (fun x => x.1.isSome)
      && decide ([e, f].length + ([] : List Keyword).length + (if ([] : List Keyword).isEmpty then 0 else 1) < 30)) = true := by rfl)
    (hline : (apos.endLine == cpos.line) = true := by rfl) (hs : starEach [e, f] X.env = [(false, eval e X.env), (false, eval f X.env)] := by rfl) :
    PE X (.Call (.Attribute o "get" apos) [e, f] [] cpos) (tKGet X.K X.w to ta) := by
  refine ⟨fun pins s σ H Q I h => wpAny_Call_method_late hbase hfew hline rfl (thn (ho.run pins s σ H _ I h) fun v s1 ⟨x, H1, I1, r1, q1⟩ => ?_)⟩
  obtain ⟨p, g, rfl, ⟨es, n, hl, hk, hd, hg⟩, q1⟩ := q1
  obtain rfl : v = Value.ref p := r1
  have hm := PySem.W.mapOf_K (prog := X.prog) (w := X.w) I1.kIn hl hk
  refine ⟨"dict", _, PySem.F.plainAttrs_dict, PySem.F.slot_dict_get, PySem.F.type_dict_get, hm.typeIs, fun a e => ⟨_, I1.kIn _ _ (by cases e; exact hl), rfl⟩, ?_⟩
  have hA := ha.run cpos pins s1 σ H1 _ I1 q1
  rw [hs] at hA ⊢
  refine Calls.callWith_builtin rfl (Calls.evalArgs_plain (thn hA fun us s2 ⟨vs, H2, I2, r2, z, d, ev, q2⟩ => ?_))
  subst ev
  obtain ⟨u1, u2, rfl, ru1, ru2⟩ := vals2 r2
  obtain ⟨t, rfl⟩ := ru1
  have hm2 := PySem.W.mapOf_K (prog := X.prog) (w := X.w) I2.kIn hl hk
  refine call_meetsIn PySem.F.slot_dict_get hm2.typeIs PySem.F.entry_dict_get (PySem.F.args_dict_get_3 _ _ _) (meets_dict_get_default (strKind X.prog X.w) p (strKind_is X.prog X.w z t) hd u2) ⟨_, hm2, _, H2, I2.tok _, ?_, q2⟩
  have r := hg z
  cases e1 : g z with
  | none =>
    rw [e1] at r
    rw [RelO.none_of r]
    exact ru2
  | some y =>
    rw [e1] at r
    obtain ⟨u, hu, ru⟩ := RelO.some_of r
    rw [hu]
    exact ru
/-- text * int -/
def rRepS : R2 := fun x y H Q => ∃ (z : Str) (n : Int), x = .str z ∧ y = .int n ∧ z.length ≤ 1000 ∧ 0 ≤ n ∧ n ≤ 1000 ∧ Q (.str (Txt.mul z n)) H
theorem op_repS : OpR X (binaryOp .Mult) rRepS := by
  intro pins s σ H x y v u Q I rx ry h
  obtain ⟨z, n, rfl, rfl, hz, h0, h1, q⟩ := h
  obtain ⟨t, rfl⟩ := rx
  obtain ⟨t2, rfl⟩ := ry
  refine PySem.SB.mul ⟨?_, fun h2 _ h3 => ?_, fun h2 _ => ?_⟩ fun t' k => ⟨.str (Txt.mul z n), H, I.tok k, ⟨t', rfl⟩, q⟩
  · simp; omega
  · have h4 : (1000 : Int) ≤ (2 ^ 63 - 1) / n := Int.le_ediv_of_mul_le (by omega) (by omega)
    omega
  · have h5 : z.length * n.toNat ≤ 1000 * 1000 := Nat.mul_le_mul hz (by omega)
    have h6 : ¬ z.length * n.toNat > sizeLine := by rw [sizeLine_eq]; omega
    exact decide_eq_false h6
end
end Xk
set_option Elab.async false
set_option linter.all false
set_option maxRecDepth 100000
set_option maxHeartbeats 4000000
namespace Xl
open PySem PySem.Spec PyProof.Rows L2 Evl
section
variable {K : PySem.W.Frag} {σ : L2.St} {H : Hp} {te ta tb tl : TE} {t : TT}
theorem given_all (n : Nat) (v : Nat → V) : given n (fun _ => true) v = (List.range n).map v := by
  unfold given
  rw [List.filter_eq_self.mpr (fun _ _ => rfl)]
/-- over a text, no tests -/
theorem el_lcS {x : Str} {j : Nat} {vs : List Nat} (v : Nat → V) (h : Ev tl σ H (.str x)) (hz : x.cps.size ≤ 40000) (hw : ∀ y, wipe ((wipe σ vs).set j (some y)) vs = wipe σ vs)
    (he : ∀ (i c : Nat) H1, Ex H H1 → x.cps[i]? = some c → Ev te ((wipe σ vs).set j (some (.str ⟨#[c]⟩))) H1 (v i)) : EvL (tLc (iStr tl) (gName j) tYes te vs) σ H ((List.range x.cps.size).map v) := fun H0 e Q q => h H0 e _ fun H1 e1 => ⟨x, rfl, fun Dl hD =>
  lc_it (walk_str (z := x)) (Cw H1 (fun _ => true) v Dl) ⟨hD, Ex.new hD, upd_same⟩ (fun _ _ _ _ => trivial) (fun i y H' H'' hi p hy => by
    obtain ⟨rfl, c, hc, rfl⟩ := hy
    exact ⟨hw _, cw_turn p (by omega) (fun H3 _ Q k => k H3 (Ex.refl _)) (fun _ => he i c H1 (e.trans e1) hc)⟩)
    (fun H' p => q Dl H' (fresh_back e1 p.1) (e1.trans p.2.1) (by rw [← given_all]; exact p.2.2))⟩
theorem ev_all {bs : List Bool} (h : EvL te σ H (bs.map V.bl)) : Ev (tCB (rAll K) (tCons te tNil)) σ H (.bl (bs.all id)) := fun H1 e Q q =>
  h H1 e _ fun p H2 hp e2 hx => ⟨p, bs, rfl, sq_of hx, q H2 e2⟩
theorem ev_any {bs : List Bool} (h : EvL te σ H (bs.map V.bl)) : Ev (tCB (rAny K) (tCons te tNil)) σ H (.bl (bs.any id)) := fun H1 e Q q =>
  h H1 e _ fun p H2 hp e2 hx => ⟨p, bs, rfl, sq_of hx, q H2 e2⟩
theorem ev_lenS {x : Str} (h : Ev te σ H (.str x)) (hz : x.length ≤ sizeLine) : Ev (tCB (fun xs H Q => ∃ z, xs = [.str z] ∧ z.length ≤ sizeLine ∧ Q (.int z.length) H) (tCons te tNil)) σ H (.int x.length) := fun H1 e Q q =>
  h H1 e _ fun H2 e2 => ⟨x, rfl, hz, q H2 e2⟩
theorem rv_sign {c : Nat} {z : Str} : RV (fun x y H Q => ∃ (c : Nat) (z : Str), x = .str ⟨#[c]⟩ ∧ y = .str z ∧ Q (.bl (decide (c ∈ z.cps.toList))) H) (.str ⟨#[c]⟩) (.str z) H (.bl (decide (c ∈ z.cps.toList))) := fun H1 _ _ q => ⟨c, z, rfl, rfl, q H1 (Ex.refl H1)⟩
theorem rv_signN {c : Nat} {z : Str} : RV (fun x y H Q => ∃ (c : Nat) (z : Str), x = .str ⟨#[c]⟩ ∧ y = .str z ∧ Q (.bl (!decide (c ∈ z.cps.toList))) H) (.str ⟨#[c]⟩) (.str z) H (.bl (!decide (c ∈ z.cps.toList))) := fun H1 _ _ q => ⟨c, z, rfl, rfl, q H1 (Ex.refl H1)⟩
theorem ev_chain {r r' : R2} {tc : TE} {x y z : V} {p q : Bool} (ha : Ev ta σ H x) (hb : Ev tb σ H y) (h1 : RV r x y H (.bl p)) (hc : p = true → Ev tc σ H z) (h2 : p = true → RV r' y z H (.bl q)) : Ev (tChain r r' ta tb tc) σ H (.bl (p && q)) := fun H1 e Q k =>
  ha H1 e _ fun H2 e2 => hb H2 (e.trans e2) _ fun H3 e3 => h1 H3 ((e.trans e2).trans e3) _ fun H4 e4 => ⟨p, rfl, by
    have e14 := (e2.trans e3).trans e4
    cases p with
    | true =>
      show tc σ H4 _
      exact hc rfl H4 (e.trans e14) _ fun H5 e5 => h2 rfl H5 ((e.trans e14).trans e5) _ fun H6 e6 => k H6 ((e14.trans e5).trans e6)
    | false => exact k H4 e14⟩
theorem et_T {b : Bool} (h : Ev te σ H (.bl b)) : EvT (tTest te) σ H b := et_test h
end
end Xl
set_option Elab.async false
set_option linter.all false
set_option maxRecDepth 100000
namespace Mi
abbrev Wd := List Nat
def cd (s : String) : Wd := s.toList.map Char.toNat
def LET : Wd := [97, 98, 99, 100, 101, 102, 103, 104, 105, 106, 107, 108, 109, 110, 111, 112, 113, 114, 115, 116, 117, 118, 119, 120, 121, 122]
def FIG : Wd := [48, 49, 50, 51, 52, 53, 54, 55, 56, 57]
def isLet (c : Nat) : Bool := decide (c ∈ LET)
def isFig (c : Nat) : Bool := decide (c ∈ FIG)
def ARI : List (Wd × Nat) := [([102, 117, 110], 1), ([99, 97, 108, 108], 2), ([108, 101, 116], 2), ([112, 108, 117, 115], 2), ([108, 101, 115, 115], 2), ([112, 105, 99, 107], 3), ([112, 97, 105, 114], 2), ([102, 105, 114, 115, 116], 1), ([115, 101, 99, 111, 110, 100], 1)]
def ari (w : Wd) : Option Nat := ARI.lookup w
def nameOk (w : Wd) : Bool := (decide (1 ≤ w.length) && decide (w.length ≤ 8) && isLet (w.getD 0 0)) && w.all fun c => isLet c || isFig c
def digs (w : Wd) : Wd := match w with
  | 45 :: r => r
  | _ => w
def val (d : Wd) : Nat := d.foldl (fun a c => 10 * a + (c - 48)) 0
def intOf (w : Wd) : Option Int :=
  if digs w = [] ∨ (digs w).all isFig = false then none
  else if (digs w).getD 0 0 = 48 ∧ w ≠ [48] then none
  else some (if w.head? = some 45 then -(val (digs w) : Int) else (val (digs w) : Int))
def written (w : Wd) : Bool := decide (w.length ≤ 3) && match intOf w with
  | none => false
  | some n => decide (-99 ≤ n) && decide (n ≤ 99)
def okFree (w : Wd) : Bool := nameOk w && (ari w).isNone && !(decide (w = [112, 97, 114, 116]) || decide (w = [114, 117, 110]))
structure Nd where
  at_ : Nat
  sign : Wd
  kind : Wd
  named : Wd
  outer : Option Nat
  within : List Nat
  binder : Option Nat
  level : Nat
  deriving DecidableEq, Inhabited
def mkNd (at_ : Nat) (sign : Wd) (outer : Option Nat) (level : Nat) : Nd := ⟨at_, sign, sign, [], outer, [], none, level⟩
def isBind (w : Wd) : Bool := decide (w = [102, 117, 110]) || decide (w = [108, 101, 116])
def readNd (words : List Wd) (at_ : Nat) (outer : Option Nat) (lvl : Nat) : Option Nd :=
  let sign := words.getD at_ []
  let nd := mkNd at_ sign outer lvl
  if 30 < lvl then none
  else if (ari sign).isSome then
    if isBind sign then
      let nm := if at_ + 1 < words.length then words.getD (at_ + 1) [] else []
      if okFree nm then some { nd with named := nm } else none
    else some nd
  else if okFree sign then some { nd with kind := [110, 97, 109, 101] }
  else if written sign then some { nd with kind := [110, 117, 109, 98, 101, 114] } else none
def nth (ns : List Nd) (i : Nat) : Nd := ns.getD i default
def full (ns : List Nd) (i : Nat) : Bool := decide ((nth ns i).within.length = (ari (nth ns i).kind).getD 0)
def popM (ns : List Nd) : Nat → List Nat → List Nat
  | 0, wt => wt
  | f + 1, wt => match wt.getLast? with
    | none => wt
    | some i => if full ns i then popM ns f wt.dropLast else wt
def addIn (ns : List Nd) (wt : List Nat) (i : Nat) : List Nd := match wt.getLast? with
  | none => ns
  | some o => ns.set o { nth ns o with within := (nth ns o).within ++ [i] }
def hangM (ns : List Nd) (wt : List Nat) (i : Nat) : List Nd × List Nat := (addIn ns wt i, popM (addIn ns wt i) (wt.length + 1) (wt ++ [i]))
def lvlOf (ns : List Nd) (o : Option Nat) : Nat := match o with
  | none => 1
  | some o => (nth ns o).level + 1
def loopM (words : List Wd) : Nat → List Nd → List Nat → Nat → Option (List Nd × List Nat)
  | 0, ns, wt, _ => some (ns, wt)
  | f + 1, ns, wt, at_ =>
    if at_ < words.length then
      match readNd words at_ wt.getLast? (lvlOf ns wt.getLast?) with
      | none => none
      | some nd => if ns ≠ [] ∧ wt.getLast? = none then none else
        loopM words f (hangM (ns ++ [nd]) wt ns.length).1 (hangM (ns ++ [nd]) wt ns.length).2 (if nd.named ≠ [] then at_ + 2 else at_ + 1)
    else some (ns, wt)
def climb (ns : List Nd) (sign : Wd) : Nat → Nat → Option Nat → Option Nat
  | 0, _, _ => none
  | _ + 1, _, none => none
  | f + 1, below, some a => if (nth ns a).named = sign ∧ (nth ns a).within.getLast? = some below then some a else climb ns sign f a (nth ns a).outer
def bindM (ns : List Nd) (i : Nat) : Nd := match climb ns (nth ns i).sign (i + 1) i (nth ns i).outer with
  | some a => { nth ns i with binder := some a }
  | none => { nth ns i with kind := [112, 97, 114, 116] }
def bindTo : Nat → List Nd → List Nd
  | 0, ns => ns
  | k + 1, ns => let ms := bindTo k ns; if (nth ms k).kind = [110, 97, 109, 101] then ms.set k (bindM ms k) else ms
def readExpr (words : List Wd) (start : Nat) : Option (List Nd) := match loopM words (words.length + 1) [] [] start with
  | none => none
  | some (ns, wt) => if wt ≠ [] ∨ ns = [] then none else some (bindTo ns.length ns)
structure Ln where
  name : Wd
  told : Wd
  nodes : List Nd
  deriving DecidableEq, Inhabited
def Ln.names (l : Ln) : List Wd := (l.nodes.filter fun n => decide (n.named ≠ [])).map (·.named)
def readLine (told : Wd) : Option Ln :=
  let words := TL.spl [32] 0 [] told
  if 120 < words.length then none
  else if words.getD 0 [] = [114, 117, 110] then (readExpr words 1).map fun ns => ⟨[114, 117, 110], told, ns⟩
  else if words.getD 0 [] = [112, 97, 114, 116] ∧ 2 < words.length ∧ okFree (words.getD 1 []) = true ∧ words.getD 2 [] = [102, 117, 110] then (readExpr words 2).map fun ns => ⟨words.getD 1 [], told, ns⟩
  else none
def canStand (l : Ln) (ahead : List Ln) : Bool :=
  let names := ahead.map (·.name)
  if [114, 117, 110] ∈ names ∨ l.name ∈ names then false
  else if l.name ≠ [114, 117, 110] ∧ names.length = 12 then false
  else if l.name ∈ l.names ∨ (ahead.any fun o => decide (l.name ∈ o.names)) = true then false
  else !(l.names.any fun n => decide (n ∈ names))
def linesM : List Wd → List Ln → Except Nat (List Ln)
  | [], ls => .ok ls
  | told :: r, ls => match readLine told with
    | none => .error (ls.length + 1)
    | some l => if canStand l ls then linesM r (ls ++ [l]) else .error (ls.length + 1)
def known (names : List Wd) (l : Ln) : Bool := l.nodes.all fun n => !decide (n.kind = [112, 97, 114, 116]) || decide (n.sign ∈ names)
def firstUnknown (names : List Wd) : Nat → List Ln → Option Nat
  | _, [] => none
  | k, l :: r => if known names l then firstUnknown names (k + 1) r else some k
def readProg (text : Wd) : Except Nat (List Ln) := match linesM (TL.spl [10] 0 [] text) [] with
  | .error e => .error e
  | .ok ls => if (ls.getLastD default).name ≠ [114, 117, 110] then .error (ls.length + 1)
    else match firstUnknown (ls.dropLast.map (·.name)) 1 ls with
      | some k => .error k
      | none => .ok ls
def errOf (s : String) : Option Nat := match readProg (cd s) with
  | .error e => some e
  | .ok _ => none
end Mi
set_option Elab.async false
set_option linter.all false
set_option maxRecDepth 100000
namespace Mi
open PySem SX
def chk (x : Wd) : Bool := match intOf x with
  | none => true
  | some n => decide (intText? (S x) = some n)
theorem chk_tab : (FIG.all fun a => (chk [a] && chk [45, a]) && FIG.all fun b => (chk [a, b] && chk [45, a, b]) && FIG.all fun c => chk [a, b, c]) = true := by decide +kernel
theorem fig_not45 : (45 : Nat) ∉ FIG := by decide
theorem mem_fig {c : Nat} (h : isFig c = true) : c ∈ FIG := of_decide_eq_true h
theorem chk_all {x : Wd} (h : x.length ≤ 3) (hd : (digs x).all isFig = true) (hn : digs x ≠ []) : chk x = true := by
  have t := chk_tab
  rw [List.all_eq_true] at t
  have t1 : ∀ a ∈ FIG, (chk [a] = true ∧ chk [45, a] = true) ∧ ∀ b ∈ FIG, (chk [a, b] = true ∧ chk [45, a, b] = true) ∧ ∀ c ∈ FIG, chk [a, b, c] = true := fun a ha => by
    have z := t a ha
    simp only [Bool.and_eq_true, List.all_eq_true] at z
    exact z
  match x, h, hd, hn with
  | [], _, _, hn => exact absurd rfl hn
  | [a], _, hd, hn =>
    by_cases e : a = 45
    · subst e; exact absurd rfl hn
    · have z : digs [a] = [a] := by unfold digs; split <;> simp_all
      rw [z] at hd
      exact (t1 a (mem_fig (by simpa using hd))).1.1
  | [a, b], _, hd, hn =>
    by_cases e : a = 45
    · subst e
      have hd : [b].all isFig = true := hd
      exact (t1 b (mem_fig (by simpa using hd))).1.2
    · have z : digs [a, b] = [a, b] := by unfold digs; split <;> simp_all
      rw [z] at hd
      simp only [List.all_cons, List.all_nil, Bool.and_true, Bool.and_eq_true] at hd
      exact ((t1 a (mem_fig hd.1)).2 b (mem_fig hd.2)).1.1
  | [a, b, c], _, hd, hn =>
    by_cases e : a = 45
    · subst e
      have hd : [b, c].all isFig = true := hd
      simp only [List.all_cons, List.all_nil, Bool.and_true, Bool.and_eq_true] at hd
      exact ((t1 b (mem_fig hd.1)).2 c (mem_fig hd.2)).1.2
    · have z : digs [a, b, c] = [a, b, c] := by unfold digs; split <;> simp_all
      rw [z] at hd
      simp only [List.all_cons, List.all_nil, Bool.and_true, Bool.and_eq_true] at hd
      exact ((t1 a (mem_fig hd.1)).2 b (mem_fig hd.2.1)).2 c (mem_fig hd.2.2)
theorem int_text {x : Wd} {n : Int} (h : x.length ≤ 3) (e : intOf x = some n) : intText? (S x) = some n := by
  have e' := e
  unfold intOf at e'
  split at e'
  · cases e'
  · rename_i h1
    have h2 : ¬ digs x = [] := fun z => h1 (.inl z)
    have h3 : (digs x).all isFig = true := by
      cases z : (digs x).all isFig with
      | true => rfl
      | false => exact absurd (.inr z) h1
    have c := chk_all h h3 h2
    unfold chk at c
    rw [e] at c
    exact of_decide_eq_true c
theorem prefix_S (x : Wd) : Txt.removeprefix (S x) (S [45]) = S (digs x) := by
  unfold Txt.removeprefix
  match x with
  | [] => decide +kernel
  | a :: r =>
    have hs : Builtin.Str.subAt (S (a :: r)) (S [45]) 0 = decide (a = 45) := by
      unfold Builtin.Str.subAt
      have e : (S (a :: r)).cps.extract 0 (0 + (S [45]).length) = #[a] := by
        rw [S_len]
        simp
      rw [e]
      by_cases h : a = 45
      · subst h; decide
      · rw [decide_eq_false h]
        simpa using h
    rw [hs]
    by_cases h : a = 45
    · subst h
      have z : digs (45 :: r) = r := rfl
      rw [z, decide_eq_true rfl, if_pos rfl]
      unfold Txt.affix
      have l1 : (S (45 :: r)).length = r.length + 1 := by rw [S_len]; rfl
      have l2 : (S [45]).length = 1 := rfl
      show (if ((S (45 :: r)).length - (S [45]).length == (S (45 :: r)).length) = true then S (45 :: r) else Builtin.Str.strSub (S (45 :: r)) (S [45]).length (S (45 :: r)).length) = S r
      rw [l1, l2, if_neg (by simp)]
      unfold Builtin.Str.strSub
      simp
    · rw [decide_eq_false h]
      have z : digs (a :: r) = a :: r := by unfold digs; split <;> simp_all
      rw [z]
      rfl
end Mi
set_option Elab.async false
set_option linter.all false
set_option maxRecDepth 100000
set_option maxHeartbeats 1000000
namespace Mi
inductive Tr where
  | leaf (w : Wd)
  | un (s n : Wd) (a : Tr)
  | bi (s n : Wd) (a b : Tr)
  | tri (s : Wd) (a b c : Tr)
  deriving Inhabited
def nmW (n : Wd) : List Wd := if n = [] then [] else [n]
def Tr.words : Tr → List Wd
  | .leaf w => [w]
  | .un s n a => s :: (nmW n ++ a.words)
  | .bi s n a b => s :: (nmW n ++ (a.words ++ b.words))
  | .tri s a b c => s :: (a.words ++ (b.words ++ c.words))
def Tr.cnt : Tr → Nat
  | .leaf _ => 1
  | .un _ _ a => 1 + a.cnt
  | .bi _ _ a b => 1 + (a.cnt + b.cnt)
  | .tri _ a b c => 1 + (a.cnt + (b.cnt + c.cnt))
def Tr.dep : Tr → Nat
  | .leaf _ => 1
  | .un _ _ a => 1 + a.dep
  | .bi _ _ a b => 1 + max a.dep b.dep
  | .tri _ a b c => 1 + max a.dep (max b.dep c.dep)
def Tr.rs : Tr → Wd
  | .leaf w => w
  | .un s _ _ => s
  | .bi s _ _ _ => s
  | .tri s _ _ _ => s
def Tr.rn : Tr → Wd
  | .leaf _ => []
  | .un _ n _ => n
  | .bi _ n _ _ => n
  | .tri _ _ _ _ => []
def Tr.kd : Tr → Wd
  | .leaf w => if okFree w then [110, 97, 109, 101] else [110, 117, 109, 98, 101, 114]
  | .un s _ _ => s
  | .bi s _ _ _ => s
  | .tri s _ _ _ => s
/-- the words are such as an expression has -/
def bindOk (s n : Wd) : Prop := (isBind s = true → n ≠ [] ∧ okFree n = true) ∧ (isBind s = false → n = [])
def Tr.Ok : Tr → Prop
  | .leaf w => ari w = none ∧ (okFree w = true ∨ written w = true)
  | .un s n a => ari s = some 1 ∧ bindOk s n ∧ a.Ok
  | .bi s n a b => ari s = some 2 ∧ bindOk s n ∧ a.Ok ∧ b.Ok
  | .tri s a b c => ari s = some 3 ∧ isBind s = false ∧ a.Ok ∧ b.Ok ∧ c.Ok
def Tr.root (e : Tr) (at_ : Nat) (outer : Option Nat) (lvl : Nat) : Nd := ⟨at_, e.rs, e.kd, e.rn, outer, [], none, lvl⟩
theorem Tr.words_eq (e : Tr) : ∃ r, e.words = e.rs :: (nmW e.rn ++ r) := by
  cases e with
  | leaf w => exact ⟨[], rfl⟩
  | un s n a => exact ⟨_, rfl⟩
  | bi s n a b => exact ⟨_, rfl⟩
  | tri s a b c => exact ⟨_, rfl⟩
theorem getD_drop {ws : List Wd} {i : Nat} {x : Wd} {r : List Wd} (h : ws.drop i = x :: r) : i < ws.length ∧ ws.getD i [] = x ∧ ws.drop (i + 1) = r := by
  have hi : i < ws.length := by
    apply Nat.lt_of_not_le; intro hle; rw [List.drop_eq_nil_of_le hle] at h; cases h
  rw [List.drop_eq_getElem_cons hi] at h
  injection h with h1 h2
  refine ⟨hi, ?_, h2⟩
  rw [List.getD_eq_getElem?_getD, List.getElem?_eq_getElem hi, h1]; rfl
theorem drop_app {ws a b : List Wd} {i : Nat} (h : ws.drop i = a ++ b) : ws.drop (i + a.length) = b := by
  rw [← List.drop_drop, h, List.drop_left]
theorem isBind_ari {s : Wd} (h : ari s = none) : isBind s = false := by
  cases hb : isBind s with
  | false => rfl
  | true =>
    simp only [isBind, Bool.or_eq_true, decide_eq_true_eq] at hb
    rcases hb with rfl | rfl <;> revert h <;> decide
theorem readNd_tr {ws : List Wd} {at_ : Nat} {outer : Option Nat} {lvl : Nat} {e : Tr} {r : List Wd} (ok : e.Ok) (hw : ws.drop at_ = e.words ++ r) (hl : lvl ≤ 30) : readNd ws at_ outer lvl = some (e.root at_ outer lvl) := by
  obtain ⟨q, hq⟩ := e.words_eq
  rw [hq] at hw
  obtain ⟨h1, h2, h3⟩ := getD_drop (show ws.drop at_ = e.rs :: (nmW e.rn ++ q ++ r) by rw [hw]; simp)
  unfold readNd
  rw [h2]
  have hl' : ¬ 30 < lvl := by omega
  simp only [hl', if_false]
  have op : ∀ {s n : Wd}, e.rs = s → e.rn = n → e.kd = s → (ari s).isSome = true → bindOk s n → (if (ari e.rs).isSome = true then if isBind e.rs = true then if okFree (if at_ + 1 < ws.length then ws.getD (at_ + 1) [] else []) = true then some { mkNd at_ e.rs outer lvl with named := if at_ + 1 < ws.length then ws.getD (at_ + 1) [] else [] } else none else some (mkNd at_ e.rs outer lvl) else if okFree e.rs = true then some { mkNd at_ e.rs outer lvl with kind := [110, 97, 109, 101] } else if written e.rs = true then some { mkNd at_ e.rs outer lvl with kind := [110, 117, 109, 98, 101, 114] } else none) = some (e.root at_ outer lvl) := by
    intro s n es en ek hs hb
    rw [es, if_pos hs]
    cases hbs : isBind s with
    | false =>
      have hn := hb.2 hbs
      simp only [mkNd, Tr.root, es, en, ek, hn]
      rfl
    | true =>
      obtain ⟨hn, hf⟩ := hb.1 hbs
      rw [en] at h3
      have : nmW n = [n] := by unfold nmW; rw [if_neg hn]
      rw [this] at h3
      obtain ⟨g1, g2, g3⟩ := getD_drop (show ws.drop (at_ + 1) = n :: (q ++ r) by rw [h3]; rfl)
      rw [if_pos rfl, if_pos g1, g2, if_pos hf]
      simp only [mkNd, Tr.root, es, en, ek]
  cases e with
  | leaf w =>
    obtain ⟨ha, hk⟩ := ok
    show (if (ari w).isSome = true then _ else _) = _
    rw [ha]
    simp only [Option.isSome_none, Bool.false_eq_true, if_false]
    show (if okFree w = true then _ else _) = _
    by_cases hf : okFree w = true
    · rw [if_pos hf]; simp only [mkNd, Tr.root, Tr.rs, Tr.kd, Tr.rn, if_pos hf]
    · rw [if_neg hf]
      rcases hk with hk | hk
      · exact absurd hk hf
      · show (if written w = true then _ else _) = _
        rw [if_pos hk]; simp only [mkNd, Tr.root, Tr.rs, Tr.kd, Tr.rn, if_neg hf]
  | un s n a => exact op (s := s) (n := n) rfl rfl rfl (by rw [ok.1]; rfl) ok.2.1
  | bi s n a b => exact op (s := s) (n := n) rfl rfl rfl (by rw [ok.1]; rfl) ok.2.1
  | tri s a b c => exact op (s := s) (n := []) rfl rfl rfl (by rw [ok.1]; rfl) ⟨fun h => absurd (ok.2.1.symm.trans h) (by decide), fun _ => rfl⟩
theorem popM_fuel {ns : List Nd} : ∀ {f : Nat} {wt : List Nat}, wt.length ≤ f → popM ns f wt = popM ns wt.length wt := by
  intro f
  induction f with
  | zero => intro wt h; have : wt = [] := List.length_eq_zero_iff.1 (Nat.le_zero.1 h); subst this; rfl
  | succ f ih =>
    intro wt h
    rcases List.eq_nil_or_concat wt with rfl | ⟨l, i, rfl⟩
    · rfl
    · rw [List.concat_eq_append] at h ⊢
      have hl : (l ++ [i]).length = l.length + 1 := by simp
      rw [hl] at h ⊢
      unfold popM
      simp only [List.getLast?_append, List.getLast?_singleton, Option.some_or, List.dropLast_concat]
      split
      · rw [ih (by omega)]
      · rfl
def popF (ns : List Nd) (wt : List Nat) : List Nat := popM ns wt.length wt
theorem popF_nil {ns : List Nd} : popF ns [] = [] := rfl
theorem popF_full {ns : List Nd} {wt : List Nat} {i : Nat} (h : full ns i = true) : popF ns (wt ++ [i]) = popF ns wt := by
  unfold popF
  have hl : (wt ++ [i]).length = wt.length + 1 := by simp
  rw [hl]
  rw [popM.eq_2]
  simp only [List.getLast?_append, List.getLast?_singleton, Option.some_or, List.dropLast_concat, h, if_true]
theorem popF_open {ns : List Nd} {wt : List Nat} {i : Nat} (h : full ns i = false) : popF ns (wt ++ [i]) = wt ++ [i] := by
  unfold popF
  have hl : (wt ++ [i]).length = wt.length + 1 := by simp
  rw [hl]
  rw [popM.eq_2]
  simp only [List.getLast?_append, List.getLast?_singleton, Option.some_or, List.dropLast_concat, h, Bool.false_eq_true, if_false]
theorem hangM_snd {ns : List Nd} {wt : List Nat} {i : Nat} : (hangM ns wt i).2 = popF (addIn ns wt i) (wt ++ [i]) := by
  show popM (addIn ns wt i) (wt.length + 1) (wt ++ [i]) = _
  unfold popF; rw [show (wt ++ [i]).length = wt.length + 1 by simp]
/-- what the nodes are behind one hung -/
def withIn (ns : List Nd) (o : Option Nat) (i j : Nat) : Nd := if o = some j then { nth ns j with within := (nth ns j).within ++ [i] } else nth ns j
theorem nth_app {ns ms : List Nd} {j : Nat} (h : j < ns.length) : nth (ns ++ ms) j = nth ns j := by
  unfold nth; rw [List.getD_eq_getElem?_getD, List.getD_eq_getElem?_getD, List.getElem?_append_left h]
theorem nth_new {ns : List Nd} {nd : Nd} : nth (ns ++ [nd]) ns.length = nd := by
  unfold nth; rw [List.getD_eq_getElem?_getD, List.getElem?_append_right (Nat.le_refl _)]; simp
theorem addIn_len {ns : List Nd} {wt : List Nat} {i : Nat} : (addIn ns wt i).length = ns.length := by
  unfold addIn; split <;> simp
theorem nth_set {ns : List Nd} {o j : Nat} {x : Nd} (h : o < ns.length) : nth (ns.set o x) j = if o = j then x else nth ns j := by
  unfold nth; rw [List.getD_eq_getElem?_getD, List.getD_eq_getElem?_getD]
  by_cases e : o = j
  · subst e; rw [if_pos rfl, List.getElem?_set_self h]; rfl
  · rw [if_neg e, List.getElem?_set_ne e]
theorem addIn_nth {ns : List Nd} {nd : Nd} {wt : List Nat} (hw : ∀ i ∈ wt, i < ns.length) : (∀ j, j < ns.length → nth (addIn (ns ++ [nd]) wt ns.length) j = withIn ns wt.getLast? ns.length j) ∧ nth (addIn (ns ++ [nd]) wt ns.length) ns.length = nd := by
  unfold addIn
  cases hg : wt.getLast? with
  | none => exact ⟨fun j hj => by rw [nth_app hj]; unfold withIn; simp, nth_new⟩
  | some o =>
    have ho : o < ns.length := hw o (List.mem_of_getLast? hg)
    have ho' : o < (ns ++ [nd]).length := by simp; omega
    refine ⟨fun j hj => ?_, ?_⟩
    · dsimp only
      rw [nth_set ho']
      unfold withIn
      by_cases e : o = j
      · subst e; rw [if_pos rfl, if_pos rfl, nth_app ho]
      · rw [if_neg e, if_neg (by simpa using e), nth_app hj]
    · dsimp only
      rw [nth_set ho', if_neg (by omega), nth_new]
end Mi
set_option Elab.async false
set_option linter.all false
set_option maxRecDepth 100000
set_option maxHeartbeats 1000000
namespace Mi
/-- the expression stands in the nodes, its own node first -/
def Has (ms : List Nd) : Tr → Nat → Nat → Option Nat → Nat → Prop
  | .leaf w, i, p, o, l => nth ms i = (Tr.leaf w).root p o l
  | .un s n a, i, p, o, l => nth ms i = { (Tr.un s n a).root p o l with within := [i + 1] } ∧ Has ms a (i + 1) (p + 1 + (nmW n).length) (some i) (l + 1)
  | .bi s n a b, i, p, o, l => nth ms i = { (Tr.bi s n a b).root p o l with within := [i + 1, i + 1 + a.cnt] } ∧ Has ms a (i + 1) (p + 1 + (nmW n).length) (some i) (l + 1) ∧ Has ms b (i + 1 + a.cnt) (p + 1 + (nmW n).length + a.words.length) (some i) (l + 1)
  | .tri s a b c, i, p, o, l => nth ms i = { (Tr.tri s a b c).root p o l with within := [i + 1, i + 1 + a.cnt, i + 1 + a.cnt + b.cnt] } ∧ Has ms a (i + 1) (p + 1) (some i) (l + 1) ∧ Has ms b (i + 1 + a.cnt) (p + 1 + a.words.length) (some i) (l + 1) ∧ Has ms c (i + 1 + a.cnt + b.cnt) (p + 1 + a.words.length + b.words.length) (some i) (l + 1)
theorem Tr.cnt_pos (e : Tr) : 0 < e.cnt := by cases e <;> simp only [Tr.cnt] <;> omega
theorem Has.congr {ms ms' : List Nd} : ∀ {e : Tr} {i p : Nat} {o : Option Nat} {l : Nat}, (∀ j, i ≤ j → j < i + e.cnt → nth ms' j = nth ms j) → Has ms e i p o l → Has ms' e i p o l := by
  intro e
  induction e with
  | leaf w => intro i p o l h hh; exact (h i (Nat.le_refl _) (Nat.lt_add_of_pos_right (Nat.succ_pos 0))).trans hh
  | un s n a iha => intro i p o l h hh; simp only [Tr.cnt] at h; exact ⟨(h i (Nat.le_refl _) (by omega)).trans hh.1, iha (fun j h1 h2 => h j (by omega) (by omega)) hh.2⟩
  | bi s n a b iha ihb => intro i p o l h hh; simp only [Tr.cnt] at h; exact ⟨(h i (Nat.le_refl _) (by omega)).trans hh.1, iha (fun j h1 h2 => h j (by omega) (by omega)) hh.2.1, ihb (fun j h1 h2 => h j (by omega) (by omega)) hh.2.2⟩
  | tri s a b c iha ihb ihc => intro i p o l h hh; simp only [Tr.cnt] at h; exact ⟨(h i (Nat.le_refl _) (by omega)).trans hh.1, iha (fun j h1 h2 => h j (by omega) (by omega)) hh.2.1, ihb (fun j h1 h2 => h j (by omega) (by omega)) hh.2.2.1, ihc (fun j h1 h2 => h j (by omega) (by omega)) hh.2.2.2⟩
theorem withIn_ne {ns : List Nd} {o : Option Nat} {i j : Nat} (h : o ≠ some j) : withIn ns o i j = nth ns j := if_neg h
theorem withIn_self {ns : List Nd} {i j : Nat} : withIn ns (some j) i j = { nth ns j with within := (nth ns j).within ++ [i] } := if_pos rfl
theorem loop_step {ws : List Wd} {F : Nat} {ns : List Nd} {wt : List Nat} {at_ : Nat} {e : Tr} {r : List Wd} (ok : e.Ok) (hw : ws.drop at_ = e.words ++ r) (hl : lvlOf ns wt.getLast? ≤ 30) (h0 : wt ≠ [] ∨ ns = []) (hb : ∀ i ∈ wt, i < ns.length) :
    ∃ ms, loopM ws (F + 1) ns wt at_ = loopM ws F ms (popF ms (wt ++ [ns.length])) (at_ + 1 + (nmW e.rn).length) ∧ ms.length = ns.length + 1 ∧ (∀ j, j < ns.length → nth ms j = withIn ns wt.getLast? ns.length j) ∧ nth ms ns.length = e.root at_ wt.getLast? (lvlOf ns wt.getLast?) := by
  obtain ⟨q, hq⟩ := e.words_eq
  obtain ⟨g1, _, _⟩ := getD_drop (show ws.drop at_ = e.rs :: (nmW e.rn ++ q ++ r) by rw [hw, hq]; simp)
  obtain ⟨a1, a2⟩ := addIn_nth (ns := ns) (nd := e.root at_ wt.getLast? (lvlOf ns wt.getLast?)) hb
  refine ⟨addIn (ns ++ [e.root at_ wt.getLast? (lvlOf ns wt.getLast?)]) wt ns.length, ?_, by rw [addIn_len]; simp, a1, a2⟩
  rw [loopM.eq_2, if_pos g1, readNd_tr ok hw hl]
  dsimp only
  have hn : ¬ (ns ≠ [] ∧ wt.getLast? = none) := by
    rintro ⟨h1, h2⟩
    rcases h0 with h | h
    · exact h (List.getLast?_eq_none_iff.1 h2)
    · exact h1 h
  rw [if_neg hn, hangM_snd]
  have hk : (if (e.root at_ wt.getLast? (lvlOf ns wt.getLast?)).named ≠ [] then at_ + 2 else at_ + 1) = at_ + 1 + (nmW e.rn).length := by
    show (if e.rn ≠ [] then at_ + 2 else at_ + 1) = _
    unfold nmW
    by_cases hr : e.rn = []
    · simp [hr]
    · simp [hr]
  rw [hk]
  rfl
theorem full_no {ns : List Nd} {i k : Nat} (hk : ari (nth ns i).kind = some k) (h : (nth ns i).within.length ≠ k) : full ns i = false := by
  unfold full; rw [hk]; exact decide_eq_false h
theorem full_yes {ns : List Nd} {i k : Nat} (hk : ari (nth ns i).kind = some k) (h : (nth ns i).within.length = k) : full ns i = true := by
  unfold full; rw [hk]; exact decide_eq_true h
theorem last_app {wt : List Nat} {i : Nat} : (wt ++ [i]).getLast? = some i := by simp
theorem loop_tr {ws : List Wd} : ∀ {e : Tr} {F : Nat} {ns : List Nd} {wt : List Nat} {at_ : Nat} {r : List Wd}, e.Ok → ws.drop at_ = e.words ++ r → lvlOf ns wt.getLast? + e.dep ≤ 31 → (wt ≠ [] ∨ ns = []) → (∀ i ∈ wt, i < ns.length) →
    ∃ ms, loopM ws (e.cnt + F) ns wt at_ = loopM ws F ms (popF ms wt) (at_ + e.words.length) ∧ ms.length = ns.length + e.cnt ∧ (∀ j, j < ns.length → nth ms j = withIn ns wt.getLast? ns.length j) ∧ Has ms e ns.length at_ wt.getLast? (lvlOf ns wt.getLast?) := by
  intro e
  induction e with
  | leaf w =>
    intro F ns wt at_ r ok hw hl h0 hb
    simp only [Tr.dep] at hl
    obtain ⟨ms, h1, h2, h3, h4⟩ := loop_step (F := F) ok hw (by omega) h0 hb
    refine ⟨ms, ?_, h2, h3, h4⟩
    rw [show (Tr.leaf w).cnt + F = F + 1 from Nat.add_comm 1 F, h1, popF_full]
    · rfl
    · unfold full; rw [h4]
      show decide (0 = (ari (if okFree w then [110, 97, 109, 101] else [110, 117, 109, 98, 101, 114])).getD 0) = true
      split <;> decide
  | un s n a iha =>
    intro F ns wt at_ r ok hw hl h0 hb
    simp only [Tr.dep] at hl
    obtain ⟨hs, hn, oa⟩ := ok
    obtain ⟨m1, h1, h2, h3, h4⟩ := loop_step (F := a.cnt + F) (e := .un s n a) ⟨hs, hn, oa⟩ hw (by omega) h0 hb
    have hk : ari (nth m1 ns.length).kind = some 1 := by rw [h4]; exact hs
    have d0 : ws.drop (at_ + (s :: nmW n).length) = a.words ++ r := drop_app (by rw [hw]; simp [Tr.words])
    have d1 : ws.drop (at_ + 1 + (nmW n).length) = a.words ++ r := by rw [← d0]; congr 1; simp; omega
    have lv : lvlOf m1 (wt ++ [ns.length]).getLast? = lvlOf ns wt.getLast? + 1 := by rw [last_app]; show (nth m1 ns.length).level + 1 = _; rw [h4]; rfl
    have bd : ∀ {m : Nat}, ns.length < m → ∀ i ∈ wt ++ [ns.length], i < m := fun hm i hi => by
      rcases List.mem_append.1 hi with h | h
      · have := hb i h; omega
      · have := List.mem_singleton.1 h; omega
    obtain ⟨m2, i1, i2, i3, i4⟩ := iha (F := F) (ns := m1) (wt := wt ++ [ns.length]) oa d1 (by rw [lv]; omega) (Or.inl (by simp)) (bd (by omega))
    rw [last_app] at i3 i4
    have hi : nth m2 ns.length = { (Tr.un s n a).root at_ wt.getLast? (lvlOf ns wt.getLast?) with within := [ns.length + 1] } := by
      rw [i3 _ (by omega), withIn_self, h4, h2]; rfl
    refine ⟨m2, ?_, by rw [i2, h2]; simp only [Tr.cnt]; omega, fun j hj => ?_, ⟨hi, ?_⟩⟩
    · rw [show (Tr.un s n a).cnt + F = (a.cnt + F) + 1 by simp only [Tr.cnt]; omega, h1, popF_open (full_no hk (by rw [h4]; intro e; cases e))]
      show loopM ws (a.cnt + F) m1 (wt ++ [ns.length]) (at_ + 1 + (nmW n).length) = _
      rw [i1, popF_full (full_yes (k := 1) (by rw [hi]; exact hs) (by rw [hi]; rfl))]
      congr 1
      simp only [Tr.words, List.length_cons, List.length_append]; omega
    · rw [i3 j (by omega), withIn_ne (by intro e; injection e with e; omega), h3 j hj]
    · have := i4; rw [h2, ← last_app (wt := wt) (i := ns.length), lv, last_app] at this; exact this
  | bi s n a b iha ihb =>
    intro F ns wt at_ r ok hw hl h0 hb
    simp only [Tr.dep] at hl
    obtain ⟨hs, hn, oa, ob⟩ := ok
    obtain ⟨m1, h1, h2, h3, h4⟩ := loop_step (F := a.cnt + (b.cnt + F)) (e := .bi s n a b) ⟨hs, hn, oa, ob⟩ hw (by omega) h0 hb
    have hk : ari (nth m1 ns.length).kind = some 2 := by rw [h4]; exact hs
    have d0 : ws.drop (at_ + (s :: nmW n).length) = a.words ++ (b.words ++ r) := drop_app (by rw [hw]; simp [Tr.words])
    have d1 : ws.drop (at_ + 1 + (nmW n).length) = a.words ++ (b.words ++ r) := by rw [← d0]; congr 1; simp; omega
    have d2 : ws.drop (at_ + 1 + (nmW n).length + a.words.length) = b.words ++ r := drop_app d1
    have lv : lvlOf m1 (wt ++ [ns.length]).getLast? = lvlOf ns wt.getLast? + 1 := by rw [last_app]; show (nth m1 ns.length).level + 1 = _; rw [h4]; rfl
    have bd : ∀ {m : Nat}, ns.length < m → ∀ i ∈ wt ++ [ns.length], i < m := fun hm i hi => by
      rcases List.mem_append.1 hi with h | h
      · have := hb i h; omega
      · have := List.mem_singleton.1 h; omega
    obtain ⟨m2, i1, i2, i3, i4⟩ := iha (F := b.cnt + F) (ns := m1) (wt := wt ++ [ns.length]) oa d1 (by rw [lv]; omega) (Or.inl (by simp)) (bd (by omega))
    rw [last_app] at i3 i4
    have hi : nth m2 ns.length = { (Tr.bi s n a b).root at_ wt.getLast? (lvlOf ns wt.getLast?) with within := [ns.length + 1] } := by
      rw [i3 _ (by omega), withIn_self, h4, h2]; rfl
    have lv2 : lvlOf m2 (wt ++ [ns.length]).getLast? = lvlOf ns wt.getLast? + 1 := by rw [last_app]; show (nth m2 ns.length).level + 1 = _; rw [hi]; rfl
    obtain ⟨m3, j1, j2, j3, j4⟩ := ihb (F := F) (ns := m2) (wt := wt ++ [ns.length]) ob d2 (by rw [lv2]; omega) (Or.inl (by simp)) (bd (by omega))
    rw [last_app] at j3 j4
    have hj : nth m3 ns.length = { (Tr.bi s n a b).root at_ wt.getLast? (lvlOf ns wt.getLast?) with within := [ns.length + 1, ns.length + 1 + a.cnt] } := by
      rw [j3 _ (by omega), withIn_self, hi, i2, h2]; rfl
    refine ⟨m3, ?_, by rw [j2, i2, h2]; simp only [Tr.cnt]; omega, fun j hj => ?_, ⟨hj, ?_, ?_⟩⟩
    · rw [show (Tr.bi s n a b).cnt + F = (a.cnt + (b.cnt + F)) + 1 by simp only [Tr.cnt]; omega, h1, popF_open (full_no hk (by rw [h4]; intro e; cases e))]
      show loopM ws (a.cnt + (b.cnt + F)) m1 (wt ++ [ns.length]) (at_ + 1 + (nmW n).length) = _
      rw [i1, popF_open (full_no (k := 2) (by rw [hi]; exact hs) (by rw [hi]; intro e; cases e)), j1, popF_full (full_yes (k := 2) (by rw [hj]; exact hs) (by rw [hj]; rfl))]
      congr 1
      simp only [Tr.words, List.length_cons, List.length_append]; omega
    · rw [j3 j (by omega), withIn_ne (by intro e; injection e with e; omega), i3 j (by omega), withIn_ne (by intro e; injection e with e; omega), h3 j hj]
    · have := i4; rw [h2, ← last_app (wt := wt) (i := ns.length), lv, last_app] at this
      exact this.congr fun j e1 e2 => by rw [j3 j (by omega), withIn_ne (by intro e; injection e with e; omega)]
    · have := j4; rw [i2, h2, ← last_app (wt := wt) (i := ns.length), lv2, last_app] at this; exact this
  | tri s a b c iha ihb ihc =>
    intro F ns wt at_ r ok hw hl h0 hb
    simp only [Tr.dep] at hl
    obtain ⟨hs, hn, oa, ob, oc⟩ := ok
    obtain ⟨m1, h1, h2, h3, h4⟩ := loop_step (F := a.cnt + (b.cnt + (c.cnt + F))) (e := .tri s a b c) ⟨hs, hn, oa, ob, oc⟩ hw (by omega) h0 hb
    have hk : ari (nth m1 ns.length).kind = some 3 := by rw [h4]; exact hs
    have d1 : ws.drop (at_ + 1) = a.words ++ (b.words ++ (c.words ++ r)) := drop_app (a := [s]) (by rw [hw]; simp [Tr.words])
    have d2 : ws.drop (at_ + 1 + a.words.length) = b.words ++ (c.words ++ r) := drop_app d1
    have d3 : ws.drop (at_ + 1 + a.words.length + b.words.length) = c.words ++ r := drop_app d2
    have lv : lvlOf m1 (wt ++ [ns.length]).getLast? = lvlOf ns wt.getLast? + 1 := by rw [last_app]; show (nth m1 ns.length).level + 1 = _; rw [h4]; rfl
    have bd : ∀ {m : Nat}, ns.length < m → ∀ i ∈ wt ++ [ns.length], i < m := fun hm i hi => by
      rcases List.mem_append.1 hi with h | h
      · have := hb i h; omega
      · have := List.mem_singleton.1 h; omega
    obtain ⟨m2, i1, i2, i3, i4⟩ := iha (F := b.cnt + (c.cnt + F)) (ns := m1) (wt := wt ++ [ns.length]) oa d1 (by rw [lv]; omega) (Or.inl (by simp)) (bd (by omega))
    rw [last_app] at i3 i4
    have hi : nth m2 ns.length = { (Tr.tri s a b c).root at_ wt.getLast? (lvlOf ns wt.getLast?) with within := [ns.length + 1] } := by
      rw [i3 _ (by omega), withIn_self, h4, h2]; rfl
    have lv2 : lvlOf m2 (wt ++ [ns.length]).getLast? = lvlOf ns wt.getLast? + 1 := by rw [last_app]; show (nth m2 ns.length).level + 1 = _; rw [hi]; rfl
    obtain ⟨m3, j1, j2, j3, j4⟩ := ihb (F := c.cnt + F) (ns := m2) (wt := wt ++ [ns.length]) ob d2 (by rw [lv2]; omega) (Or.inl (by simp)) (bd (by omega))
    rw [last_app] at j3 j4
    have hj : nth m3 ns.length = { (Tr.tri s a b c).root at_ wt.getLast? (lvlOf ns wt.getLast?) with within := [ns.length + 1, ns.length + 1 + a.cnt] } := by
      rw [j3 _ (by omega), withIn_self, hi, i2, h2]; rfl
    have lv3 : lvlOf m3 (wt ++ [ns.length]).getLast? = lvlOf ns wt.getLast? + 1 := by rw [last_app]; show (nth m3 ns.length).level + 1 = _; rw [hj]; rfl
    obtain ⟨m4, k1, k2, k3, k4⟩ := ihc (F := F) (ns := m3) (wt := wt ++ [ns.length]) oc d3 (by rw [lv3]; omega) (Or.inl (by simp)) (bd (by omega))
    rw [last_app] at k3 k4
    have hkk : nth m4 ns.length = { (Tr.tri s a b c).root at_ wt.getLast? (lvlOf ns wt.getLast?) with within := [ns.length + 1, ns.length + 1 + a.cnt, ns.length + 1 + a.cnt + b.cnt] } := by
      rw [k3 _ (by omega), withIn_self, hj, j2, i2, h2]; rfl
    refine ⟨m4, ?_, by rw [k2, j2, i2, h2]; simp only [Tr.cnt]; omega, fun j hj => ?_, ⟨hkk, ?_, ?_, ?_⟩⟩
    · rw [show (Tr.tri s a b c).cnt + F = (a.cnt + (b.cnt + (c.cnt + F))) + 1 by simp only [Tr.cnt]; omega, h1, popF_open (full_no hk (by rw [h4]; intro e; cases e))]
      show loopM ws (a.cnt + (b.cnt + (c.cnt + F))) m1 (wt ++ [ns.length]) (at_ + 1) = _
      rw [i1, popF_open (full_no (k := 3) (by rw [hi]; exact hs) (by rw [hi]; intro e; cases e)), j1, popF_open (full_no (k := 3) (by rw [hj]; exact hs) (by rw [hj]; intro e; cases e)), k1, popF_full (full_yes (k := 3) (by rw [hkk]; exact hs) (by rw [hkk]; rfl))]
      congr 1
      simp only [Tr.words, List.length_cons, List.length_append]; omega
    · rw [k3 j (by omega), withIn_ne (by intro e; injection e with e; omega), j3 j (by omega), withIn_ne (by intro e; injection e with e; omega), i3 j (by omega), withIn_ne (by intro e; injection e with e; omega), h3 j hj]
    · have := i4; rw [h2, ← last_app (wt := wt) (i := ns.length), lv, last_app] at this
      exact this.congr fun j e1 e2 => by rw [k3 j (by omega), withIn_ne (by intro e; injection e with e; omega), j3 j (by omega), withIn_ne (by intro e; injection e with e; omega)]
    · have := j4; rw [i2, h2, ← last_app (wt := wt) (i := ns.length), lv2, last_app] at this
      exact this.congr fun j e1 e2 => by rw [k3 j (by omega), withIn_ne (by intro e; injection e with e; omega)]
    · have := k4; rw [j2, i2, h2, ← last_app (wt := wt) (i := ns.length), lv3, last_app] at this; exact this
end Mi
set_option Elab.async false
set_option linter.all false
set_option maxRecDepth 100000
set_option maxHeartbeats 1000000
namespace Mi
theorem Tr.cnt_le (e : Tr) : e.cnt ≤ e.words.length := by
  induction e with
  | leaf w => exact Nat.le_refl 1
  | un s n a iha => simp only [Tr.cnt, Tr.words, List.length_cons, List.length_append]; omega
  | bi s n a b iha ihb => simp only [Tr.cnt, Tr.words, List.length_cons, List.length_append]; omega
  | tri s a b c iha ihb ihc => simp only [Tr.cnt, Tr.words, List.length_cons, List.length_append]; omega
theorem nth_over {ns : List Nd} {j : Nat} (h : ns.length ≤ j) : nth ns j = default := by
  unfold nth; rw [List.getD_eq_getElem?_getD, List.getElem?_eq_none h]; rfl
/-- alike but for kinds and binders -/
def Stat (a b : Nd) : Prop := a.outer = b.outer ∧ a.within = b.within ∧ a.named = b.named ∧ a.sign = b.sign ∧ a.at_ = b.at_ ∧ a.level = b.level
theorem Stat.rfl_ {a : Nd} : Stat a a := ⟨rfl, rfl, rfl, rfl, rfl, rfl⟩
theorem climb_stat {ns ms : List Nd} (h : ∀ j, Stat (nth ms j) (nth ns j)) {s : Wd} : ∀ {f b : Nat} {a : Option Nat}, climb ms s f b a = climb ns s f b a := by
  intro f
  induction f with
  | zero => intro b a; rfl
  | succ f ih =>
    intro b a
    cases a with
    | none => rfl
    | some a =>
      rw [climb.eq_3, climb.eq_3, (h a).2.2.1, (h a).2.1, (h a).1, ih]
theorem bindM_stat {ns : List Nd} {k : Nat} : Stat (bindM ns k) (nth ns k) := by
  unfold bindM; split <;> exact ⟨rfl, rfl, rfl, rfl, rfl, rfl⟩
theorem bindM_of {ns ms : List Nd} (h : ∀ j, Stat (nth ms j) (nth ns j)) {k : Nat} (hk : nth ms k = nth ns k) : bindM ms k = bindM ns k := by
  unfold bindM; rw [hk, climb_stat h]
theorem bt_len : ∀ {k : Nat} {ns : List Nd}, (bindTo k ns).length = ns.length := by
  intro k
  induction k with
  | zero => intro ns; rfl
  | succ k ih => intro ns; rw [bindTo]; split; · rw [List.length_set, ih]
                 · exact ih
theorem bt_nth : ∀ {k j : Nat} {ns : List Nd}, nth (bindTo k ns) j = if j < k ∧ (nth ns j).kind = [110, 97, 109, 101] then bindM ns j else nth ns j := by
  intro k
  induction k with
  | zero => intro j ns; rw [if_neg (by omega)]; rfl
  | succ k ih =>
    intro j ns
    have hs : ∀ j, Stat (nth (bindTo k ns) j) (nth ns j) := fun j => by
      rw [ih]; split
      · exact bindM_stat
      · exact Stat.rfl_
    have hk : nth (bindTo k ns) k = nth ns k := by rw [ih, if_neg (by omega)]
    rw [bindTo, hk]
    by_cases hn : (nth ns k).kind = [110, 97, 109, 101]
    · rw [if_pos hn]
      have hl : k < (bindTo k ns).length := by
        rw [bt_len]; apply Nat.lt_of_not_le; intro hle; rw [nth_over hle] at hn; revert hn; decide
      rw [nth_set hl, bindM_of hs hk]
      by_cases e : k = j
      · subst e; rw [if_pos rfl, if_pos ⟨by omega, hn⟩]
      · rw [if_neg e, ih]
        by_cases h1 : j < k ∧ (nth ns j).kind = [110, 97, 109, 101]
        · rw [if_pos h1, if_pos ⟨by omega, h1.2⟩]
        · rw [if_neg h1, if_neg]; rintro ⟨h2, h3⟩; exact h1 ⟨by omega, h3⟩
    · rw [if_neg hn, ih]
      by_cases h1 : j < k ∧ (nth ns j).kind = [110, 97, 109, 101]
      · rw [if_pos h1, if_pos ⟨by omega, h1.2⟩]
      · rw [if_neg h1, if_neg]; rintro ⟨h2, h3⟩
        by_cases e : j = k
        · subst e; exact hn h3
        · exact h1 ⟨by omega, h3⟩
theorem bt_stat {k j : Nat} {ns : List Nd} : Stat (nth (bindTo k ns) j) (nth ns j) := by
  rw [bt_nth]; split
  · exact bindM_stat
  · exact Stat.rfl_
/-- the whole expression is read -/
theorem readExpr_tr {ws : List Wd} {st : Nat} {e : Tr} (ok : e.Ok) (hw : ws.drop st = e.words) (hd : e.dep ≤ 30) : ∃ ms, readExpr ws st = some (bindTo e.cnt ms) ∧ ms.length = e.cnt ∧ Has ms e 0 st none 1 := by
  have hc := e.cnt_le
  have hl : st + e.words.length = ws.length := by
    have h1 : (ws.drop st).length = e.words.length := by rw [hw]
    rw [List.length_drop] at h1
    have := e.cnt_pos; omega
  obtain ⟨ms, h1, h2, h3, h4⟩ := loop_tr (F := ws.length + 1 - e.cnt) (ns := []) (wt := []) (r := []) ok (by rw [hw]; simp) (by show 1 + e.dep ≤ 31; omega) (Or.inr rfl) (fun i hi => by cases hi)
  refine ⟨ms, ?_, by rw [h2]; simp, h4⟩
  unfold readExpr
  rw [show ws.length + 1 = e.cnt + (ws.length + 1 - e.cnt) by omega, h1, popF_nil, hl]
  have hf : ∃ f, ws.length + 1 - e.cnt = f + 1 := ⟨ws.length - e.cnt, by omega⟩
  obtain ⟨f, hf⟩ := hf
  rw [hf, loopM.eq_2, if_neg (Nat.lt_irrefl _)]
  dsimp only
  have hm : ms ≠ [] := fun h => by rw [h] at h2; have := e.cnt_pos; simp at h2; omega
  rw [if_neg (by rintro (h | h); exact h rfl; exact hm h), h2]
  simp
theorem nmW_mem {n : Wd} (h : n ≠ []) : n ∈ nmW n := by unfold nmW; rw [if_neg h]; exact List.mem_singleton.2 rfl
/-- every name is one that is bound around it, or one of P -/
def Tr.Sc (P : List Wd) : List Wd → Tr → Prop
  | G, .leaf w => okFree w = true → w ∈ G ∨ w ∈ P
  | G, .un _ n a => Tr.Sc P (nmW n ++ G) a
  | G, .bi _ n a b => Tr.Sc P G a ∧ Tr.Sc P (nmW n ++ G) b
  | G, .tri _ a b c => Tr.Sc P G a ∧ Tr.Sc P G b ∧ Tr.Sc P G c
def Tr.bnd : Tr → List Wd
  | .leaf _ => []
  | .un _ n a => nmW n ++ a.bnd
  | .bi _ n a b => nmW n ++ (a.bnd ++ b.bnd)
  | .tri _ a b c => a.bnd ++ (b.bnd ++ c.bnd)
def Cl (ms : List Nd) (G : List Wd) (i : Nat) (o : Option Nat) : Prop := ∀ w ∈ G, ∀ f, i ≤ f → climb ms w f i o ≠ none
theorem Cl.kid {ms : List Nd} {G : List Wd} {i c : Nat} {o : Option Nat} (h : Cl ms G i o) (ho : (nth ms i).outer = o) (hc : i < c) : Cl ms G c (some i) := by
  intro w hw f hf
  obtain ⟨f', rfl⟩ : ∃ f', f = f' + 1 := ⟨f - 1, by omega⟩
  rw [climb.eq_3]
  split
  · exact fun e => by cases e
  · rw [ho]; exact h w hw f' (by omega)
theorem Cl.last {ms : List Nd} {G : List Wd} {i c : Nat} {o : Option Nat} {n : Wd} (h : Cl ms G i o) (ho : (nth ms i).outer = o) (hc : i < c) (hn : (nth ms i).named = n) (hl : (nth ms i).within.getLast? = some c) : Cl ms (nmW n ++ G) c (some i) := by
  intro w hw
  rcases List.mem_append.1 hw with h1 | h1
  · intro f hf
    obtain ⟨f', rfl⟩ : ∃ f', f = f' + 1 := ⟨f - 1, by omega⟩
    have : w = n := by
      unfold nmW at h1; split at h1
      · cases h1
      · exact List.mem_singleton.1 h1
    rw [climb.eq_3, if_pos ⟨hn.trans this.symm, hl⟩]
    exact fun e => by cases e
  · exact h.kid ho hc w h1
theorem ari_kind {s : Wd} {k : Nat} (h : ari s = some k) : s ≠ [112, 97, 114, 116] ∧ s ≠ [110, 97, 109, 101] := by
  constructor <;> (rintro rfl; revert h; rw [show ari _ = none from rfl]; intro h; cases h)
theorem Has.scope {ms : List Nd} {P : List Wd} : ∀ {e : Tr} {i p : Nat} {o : Option Nat} {l : Nat} {G : List Wd}, e.Ok → Has ms e i p o l → e.Sc P G → Cl ms G i o →
    ∀ j, i ≤ j → j < i + e.cnt → (nth ms j).kind ≠ [112, 97, 114, 116] ∧ ((nth ms j).kind = [110, 97, 109, 101] → climb ms (nth ms j).sign (j + 1) j (nth ms j).outer = none → (nth ms j).sign ∈ P) ∧ ((nth ms j).named ≠ [] → (nth ms j).named ∈ e.bnd) := by
  intro e
  induction e with
  | leaf w =>
    intro i p o l G ok h sc cl j h1 h2
    simp only [Tr.cnt] at h2
    have : j = i := by omega
    subst this
    rw [show nth ms j = _ from h]
    refine ⟨?_, fun hk hc => ?_, fun hn => absurd rfl hn⟩
    · show (if okFree w = true then _ else _) ≠ _
      split <;> decide
    · have hf : okFree w = true := by
        apply Classical.byContradiction; intro hf
        revert hk; show (if okFree w = true then _ else _) = _ → _
        rw [if_neg hf]; decide
      rcases sc hf with hg | hp
      · exact absurd hc (cl w hg _ (by omega))
      · exact hp
  | un s n a iha =>
    intro i p o l G ok h sc cl j h1 h2
    simp only [Tr.cnt] at h2
    obtain ⟨hs, _, oa⟩ := ok
    obtain ⟨hi, ha⟩ := h
    have ho : (nth ms i).outer = o := by rw [hi]; rfl
    by_cases e : j = i
    · subst e
      rw [hi]
      exact ⟨(ari_kind hs).1, fun hk => absurd hk (ari_kind hs).2, fun hn => List.mem_append_left _ (nmW_mem hn)⟩
    · obtain ⟨k1, k2, k3⟩ := iha oa ha sc (cl.last (c := i + 1) ho (by omega) (by rw [hi]; rfl) (by rw [hi]; rfl)) j (by omega) (by omega)
      exact ⟨k1, k2, fun hn => List.mem_append_right _ (k3 hn)⟩
  | bi s n a b iha ihb =>
    intro i p o l G ok h sc cl j h1 h2
    simp only [Tr.cnt] at h2
    obtain ⟨hs, _, oa, ob⟩ := ok
    obtain ⟨hi, ha, hb⟩ := h
    have ho : (nth ms i).outer = o := by rw [hi]; rfl
    by_cases e : j = i
    · subst e
      rw [hi]
      exact ⟨(ari_kind hs).1, fun hk => absurd hk (ari_kind hs).2, fun hn => List.mem_append_left _ (nmW_mem hn)⟩
    · by_cases e2 : j < i + 1 + a.cnt
      · obtain ⟨k1, k2, k3⟩ := iha oa ha sc.1 (cl.kid ho (by omega)) j (by omega) (by omega)
        exact ⟨k1, k2, fun hn => List.mem_append_right _ (List.mem_append_left _ (k3 hn))⟩
      · obtain ⟨k1, k2, k3⟩ := ihb ob hb sc.2 (cl.last (c := i + 1 + a.cnt) ho (by omega) (by rw [hi]; rfl) (by rw [hi]; rfl)) j (by omega) (by omega)
        exact ⟨k1, k2, fun hn => List.mem_append_right _ (List.mem_append_right _ (k3 hn))⟩
  | tri s a b c iha ihb ihc =>
    intro i p o l G ok h sc cl j h1 h2
    simp only [Tr.cnt] at h2
    obtain ⟨hs, _, oa, ob, oc⟩ := ok
    obtain ⟨hi, ha, hb, hc⟩ := h
    have ho : (nth ms i).outer = o := by rw [hi]; rfl
    by_cases e : j = i
    · subst e
      rw [hi]
      exact ⟨(ari_kind hs).1, fun hk => absurd hk (ari_kind hs).2, fun hn => absurd rfl hn⟩
    · by_cases e2 : j < i + 1 + a.cnt
      · obtain ⟨k1, k2, k3⟩ := iha oa ha sc.1 (cl.kid ho (by omega)) j (by omega) (by omega)
        exact ⟨k1, k2, fun hn => List.mem_append_left _ (k3 hn)⟩
      · by_cases e3 : j < i + 1 + a.cnt + b.cnt
        · obtain ⟨k1, k2, k3⟩ := ihb ob hb sc.2.1 (cl.kid ho (by omega)) j (by omega) (by omega)
          exact ⟨k1, k2, fun hn => List.mem_append_right _ (List.mem_append_left _ (k3 hn))⟩
        · obtain ⟨k1, k2, k3⟩ := ihc oc hc sc.2.2 (cl.kid ho (by omega)) j (by omega) (by omega)
          exact ⟨k1, k2, fun hn => List.mem_append_right _ (List.mem_append_right _ (k3 hn))⟩
/-- what a line tells of its nodes -/
theorem readExpr_scope {ws : List Wd} {st : Nat} {e : Tr} {P : List Wd} (ok : e.Ok) (hw : ws.drop st = e.words) (hd : e.dep ≤ 30) (sc : e.Sc P []) :
    ∃ ns, readExpr ws st = some ns ∧ ns.length = e.cnt ∧ (∀ x ∈ ns, x.kind = [112, 97, 114, 116] → x.sign ∈ P) ∧ ∀ x ∈ ns, x.named ≠ [] → x.named ∈ e.bnd := by
  obtain ⟨ms, h1, h2, h3⟩ := readExpr_tr ok hw hd
  have hl : (bindTo e.cnt ms).length = e.cnt := bt_len.trans h2
  have hx : ∀ x ∈ bindTo e.cnt ms, ∃ j, j < e.cnt ∧ nth (bindTo e.cnt ms) j = x := fun x hx => by
    obtain ⟨j, hj, e1⟩ := List.getElem_of_mem hx
    refine ⟨j, by omega, ?_⟩
    unfold nth; rw [List.getD_eq_getElem?_getD, List.getElem?_eq_getElem hj, ← e1]; rfl
  have hS := fun j (hj : j < e.cnt) => h3.scope ok sc (fun w hw => by cases hw) j (Nat.zero_le _) (by omega)
  refine ⟨_, h1, hl, fun x hx0 hk => ?_, fun x hx0 hn => ?_⟩
  · obtain ⟨j, hj, rfl⟩ := hx x hx0
    obtain ⟨k1, k2, _⟩ := hS j hj
    rw [bt_stat.2.2.2.1]
    rw [bt_nth] at hk
    by_cases hj2 : j < e.cnt ∧ (nth ms j).kind = [110, 97, 109, 101]
    · rw [if_pos hj2] at hk
      refine k2 hj2.2 ?_
      unfold bindM at hk
      cases hc : climb ms (nth ms j).sign (j + 1) j (nth ms j).outer with
      | none => rfl
      | some a => rw [hc] at hk; dsimp only at hk; rw [hj2.2] at hk; exact absurd hk (by decide)
    · rw [if_neg hj2] at hk; exact absurd hk k1
  · obtain ⟨j, hj, rfl⟩ := hx x hx0
    rw [bt_stat.2.2.1] at hn ⊢
    exact (hS j hj).2.2 hn
end Mi
set_option Elab.async false
set_option linter.all false
set_option maxRecDepth 100000
set_option maxHeartbeats 1000000
namespace Mi
abbrev PART : Wd := [112, 97, 114, 116]
abbrev RUN : Wd := [114, 117, 110]
abbrev FUN : Wd := [102, 117, 110]
/-- no blank and no line's end within -/
def Plain (w : Wd) : Prop := 32 ∉ w ∧ 10 ∉ w
theorem plain_of {w : Wd} (h : ∀ c ∈ w, c ≠ 32 ∧ c ≠ 10) : Plain w := ⟨fun h1 => (h _ h1).1 rfl, fun h1 => (h _ h1).2 rfl⟩
theorem plain_sign {c : Nat} (h : (isLet c || isFig c) = true) : c ≠ 32 ∧ c ≠ 10 := by
  constructor <;> (rintro rfl; revert h; decide)
theorem plain_free {w : Wd} (h : okFree w = true) : Plain w := by
  simp only [okFree, nameOk, Bool.and_eq_true] at h
  obtain ⟨⟨⟨_, h⟩, _⟩, _⟩ := h
  exact plain_of fun c hc => plain_sign (List.all_eq_true.1 h c hc)
theorem plain_ari {w : Wd} {k : Nat} (h : ari w = some k) : Plain w := by
  have : w ∈ ARI.map (·.1) := by
    unfold ari at h
    apply Classical.byContradiction; intro hn
    rw [show ARI.lookup w = none from List.lookup_eq_none_iff.2 fun p hp => by
      rw [bne_iff_ne]; rintro rfl; exact hn (List.mem_map_of_mem hp)] at h
    cases h
  have all : ∀ x ∈ ARI.map (·.1), Plain x := by
    intro x hx
    simp only [ARI, List.map_cons, List.map_nil, List.mem_cons, List.not_mem_nil, or_false] at hx
    rcases hx with rfl | rfl | rfl | rfl | rfl | rfl | rfl | rfl | rfl <;> exact ⟨by decide, by decide⟩
  exact all w this
theorem plain_written {w : Wd} (h : written w = true) : Plain w := by
  have hd : (digs w).all isFig = true := by
    apply Classical.byContradiction; intro hn
    rw [Bool.not_eq_true] at hn
    unfold written intOf at h; rw [if_pos (Or.inr hn)] at h; simp at h
  apply plain_of
  intro c hc
  have hf : ∀ c ∈ digs w, c ≠ 32 ∧ c ≠ 10 := fun c hc => plain_sign (by rw [List.all_eq_true.1 hd c hc, Bool.or_true])
  unfold digs at hf
  split at hf
  · rcases List.mem_cons.1 hc with rfl | h1
    · decide
    · exact hf c h1
  · exact hf c hc
theorem Tr.plain : ∀ {e : Tr}, e.Ok → ∀ w ∈ e.words, Plain w := by
  have nm : ∀ {s n : Wd}, bindOk s n → ∀ w ∈ nmW n, Plain w := fun {s n} h w hw => by
    unfold nmW at hw; split at hw
    · cases hw
    · rename_i hn
      rw [List.mem_singleton.1 hw]
      cases hb : isBind s with
      | true => exact plain_free (h.1 hb).2
      | false => exact absurd (h.2 hb) hn
  intro e
  induction e with
  | leaf w => intro ok x hx; rw [List.mem_singleton.1 hx]; rcases ok.2 with h | h; exact plain_free h; exact plain_written h
  | un s n a iha =>
    intro ok x hx
    rcases List.mem_cons.1 hx with rfl | hx
    · exact plain_ari ok.1
    · rcases List.mem_append.1 hx with hx | hx
      · exact nm ok.2.1 x hx
      · exact iha ok.2.2 x hx
  | bi s n a b iha ihb =>
    intro ok x hx
    rcases List.mem_cons.1 hx with rfl | hx
    · exact plain_ari ok.1
    · rcases List.mem_append.1 hx with hx | hx
      · exact nm ok.2.1 x hx
      · rcases List.mem_append.1 hx with hx | hx
        · exact iha ok.2.2.1 x hx
        · exact ihb ok.2.2.2 x hx
  | tri s a b c iha ihb ihc =>
    intro ok x hx
    rcases List.mem_cons.1 hx with rfl | hx
    · exact plain_ari ok.1
    · rcases List.mem_append.1 hx with hx | hx
      · exact iha ok.2.2.1 x hx
      · rcases List.mem_append.1 hx with hx | hx
        · exact ihb ok.2.2.2.1 x hx
        · exact ihc ok.2.2.2.2 x hx
theorem Tr.bnd_free : ∀ {e : Tr}, e.Ok → ∀ w ∈ e.bnd, okFree w = true := by
  have nm : ∀ {s n : Wd}, bindOk s n → ∀ w ∈ nmW n, okFree w = true := fun {s n} h w hw => by
    unfold nmW at hw; split at hw
    · cases hw
    · rename_i hn
      rw [List.mem_singleton.1 hw]
      cases hb : isBind s with
      | true => exact (h.1 hb).2
      | false => exact absurd (h.2 hb) hn
  intro e
  induction e with
  | leaf w => intro ok x hx; cases hx
  | un s n a iha =>
    intro ok x hx
    rcases List.mem_append.1 hx with hx | hx
    · exact nm ok.2.1 x hx
    · exact iha ok.2.2 x hx
  | bi s n a b iha ihb =>
    intro ok x hx
    rcases List.mem_append.1 hx with hx | hx
    · exact nm ok.2.1 x hx
    · rcases List.mem_append.1 hx with hx | hx
      · exact iha ok.2.2.1 x hx
      · exact ihb ok.2.2.2 x hx
  | tri s a b c iha ihb ihc =>
    intro ok x hx
    rcases List.mem_append.1 hx with hx | hx
    · exact iha ok.2.2.1 x hx
    · rcases List.mem_append.1 hx with hx | hx
      · exact ihb ok.2.2.2.1 x hx
      · exact ihc ok.2.2.2.2 x hx
/-- an expression that may stand in a line whose words are n, with the parts P -/
structure Tr.Good (P : List Wd) (e : Tr) : Prop where
  ok : e.Ok
  dep : e.dep ≤ 30
  sc : e.Sc P []
/-- what the nodes of a line tell -/
structure LnOf (P B : List Wd) (name told : Wd) (n : Nat) (l : Ln) : Prop where
  name : l.name = name
  told : l.told = told
  parts : ∀ x ∈ l.nodes, x.kind = PART → x.sign ∈ P
  bnd : ∀ x ∈ l.names, x ∈ B
  many : l.nodes.length = n
theorem names_bnd {l : Ln} {B : List Wd} (h : ∀ x ∈ l.nodes, x.named ≠ [] → x.named ∈ B) : ∀ x ∈ l.names, x ∈ B := by
  intro x hx
  unfold Ln.names at hx
  obtain ⟨y, hy, rfl⟩ := List.mem_map.1 hx
  obtain ⟨h1, h2⟩ := List.mem_filter.1 hy
  exact h y h1 (of_decide_eq_true h2)
def runWs (e : Tr) : List Wd := RUN :: e.words
def partWs (nm : Wd) (e : Tr) : List Wd := PART :: nm :: e.words
theorem line_run {P : List Wd} {e : Tr} (g : e.Good P) (hl : (runWs e).length ≤ 120) : ∃ l, readLine (TL.joinL [32] (runWs e)) = some l ∧ LnOf P e.bnd RUN (TL.joinL [32] (runWs e)) e.cnt l := by
  obtain ⟨ns, h1, h2, h3, h4⟩ := readExpr_scope (ws := runWs e) (st := 1) g.ok rfl g.dep g.sc
  have hs : TL.spl [32] 0 [] (TL.joinL [32] (runWs e)) = runWs e := TL.spl_join (by simp [runWs]) fun p hp => by
    rcases List.mem_cons.1 hp with rfl | hp
    · decide
    · exact (Tr.plain g.ok p hp).1
  refine ⟨⟨RUN, TL.joinL [32] (runWs e), ns⟩, ?_, ⟨rfl, rfl, h3, names_bnd h4, h2⟩⟩
  unfold readLine
  rw [hs]
  dsimp only
  rw [if_neg (by omega), if_pos (show (runWs e).getD 0 [] = RUN from rfl), h1]
  rfl
theorem line_part {P : List Wd} {nm : Wd} {e : Tr} (g : e.Good P) (hf : e.rs = FUN) (hn : okFree nm = true) (hl : (partWs nm e).length ≤ 120) : ∃ l, readLine (TL.joinL [32] (partWs nm e)) = some l ∧ LnOf P e.bnd nm (TL.joinL [32] (partWs nm e)) e.cnt l := by
  obtain ⟨ns, h1, h2, h3, h4⟩ := readExpr_scope (ws := partWs nm e) (st := 2) g.ok rfl g.dep g.sc
  have hs : TL.spl [32] 0 [] (TL.joinL [32] (partWs nm e)) = partWs nm e := TL.spl_join (by simp [partWs]) fun p hp => by
    rcases List.mem_cons.1 hp with rfl | hp
    · decide
    · rcases List.mem_cons.1 hp with rfl | hp
      · exact (plain_free hn).1
      · exact (Tr.plain g.ok p hp).1
  refine ⟨⟨nm, TL.joinL [32] (partWs nm e), ns⟩, ?_, ⟨rfl, rfl, h3, names_bnd h4, h2⟩⟩
  obtain ⟨q, hq⟩ := e.words_eq
  have hw : partWs nm e = PART :: nm :: FUN :: (nmW e.rn ++ q) := by unfold partWs; rw [hq, hf]
  unfold readLine
  rw [hs]
  dsimp only
  rw [if_neg (by omega), if_neg (show ¬ (partWs nm e).getD 0 [] = [114, 117, 110] from by rw [hw]; exact fun h => absurd (show PART = RUN from h) (by decide)), if_pos ⟨by rw [hw]; rfl, by rw [hw]; simp, by rw [hw]; exact hn, by rw [hw]; rfl⟩, h1]
  rfl
theorem plain_join {ws : List Wd} (h : ∀ w ∈ ws, 10 ∉ w) : 10 ∉ TL.joinL [32] ws := by
  induction ws with
  | nil => exact fun h => by cases h
  | cons a r ih =>
    cases r with
    | nil => rw [TL.joinL.eq_2]; exact h a (List.mem_singleton.2 rfl)
    | cons b r =>
      rw [TL.joinL.eq_3]
      intro hm
      rcases List.mem_append.1 hm with hm | hm
      · exact h a (List.mem_cons_self ..) hm
      · rcases List.mem_append.1 hm with hm | hm
        · revert hm; decide
        · exact ih (fun w hw => h w (List.mem_cons_of_mem _ hw)) hm
end Mi
set_option Elab.async false
set_option linter.all false
set_option maxRecDepth 100000
set_option maxHeartbeats 1000000
namespace Mi
abbrev Pt := Wd × Tr
def partT (p : Pt) : Wd := TL.joinL [32] (partWs p.1 p.2)
def runT (e : Tr) : Wd := TL.joinL [32] (runWs e)
def nmsP (ps : List Pt) : List Wd := ps.map (·.1)
/-- parts that may stand in a program -/
structure PtsOk (ps : List Pt) : Prop where
  few : ps.length ≤ 12
  nodup : (nmsP ps).Nodup
  free : ∀ p ∈ ps, okFree p.1 = true
  fun_ : ∀ p ∈ ps, p.2.rs = FUN
  good : ∀ p ∈ ps, p.2.Good (nmsP ps)
  len : ∀ p ∈ ps, (partWs p.1 p.2).length ≤ 120
  apart : ∀ p ∈ ps, ∀ q ∈ ps, p.1 ∉ q.2.bnd
structure RunOk (ps : List Pt) (e : Tr) : Prop where
  good : e.Good (nmsP ps)
  len : (runWs e).length ≤ 120
  apart : ∀ p ∈ ps, p.1 ∉ e.bnd
theorem free_run {w : Wd} (h : okFree w = true) : w ≠ RUN := by rintro rfl; revert h; decide
/-- the lines read so far -/
structure Read (ps a : List Pt) (la : List Ln) : Prop where
  name : la.map (·.name) = nmsP a
  told : la.map (·.told) = a.map partT
  of : ∀ l ∈ la, ∃ p ∈ ps, LnOf (nmsP ps) p.2.bnd p.1 (partT p) p.2.cnt l
theorem Read.len {ps a : List Pt} {la : List Ln} (h : Read ps a la) : la.length = a.length := by
  have := congrArg List.length h.name
  simpa [nmsP] using this
theorem stand_of {l : Ln} {la : List Ln} {N : List Wd} (hN : la.map (·.name) = N) (h1 : RUN ∉ N) (h2 : l.name ∉ N) (h3 : ¬ (l.name ≠ RUN ∧ N.length = 12)) (h4 : l.name ∉ l.names) (h5 : ∀ o ∈ la, l.name ∉ o.names) (h6 : ∀ x ∈ l.names, x ∉ N) : canStand l la = true := by
  unfold canStand
  dsimp only
  rw [hN, if_neg (by rintro (h | h); exact h1 h; exact h2 h), if_neg h3, if_neg]
  · rw [Bool.not_eq_true', ← Bool.not_eq_true, List.any_eq_true]
    rintro ⟨x, hx, hd⟩; exact h6 x hx (of_decide_eq_true hd)
  · rintro (h | h)
    · exact h4 h
    · obtain ⟨o, ho, hd⟩ := List.any_eq_true.1 h; exact h5 o ho (of_decide_eq_true hd)
theorem linesM_step {ps : List Pt} (ok : PtsOk ps) : ∀ {b a : List Pt} {la : List Ln} {rest : List Wd}, ps = a ++ b → Read ps a la → ∃ ls, linesM (b.map partT ++ rest) la = linesM rest ls ∧ Read ps ps ls := by
  intro b
  induction b with
  | nil => intro a la rest e h; rw [List.append_nil] at e; subst e; exact ⟨la, rfl, h⟩
  | cons p b ih =>
    intro a la rest e h
    have hp : p ∈ ps := by rw [e]; simp
    obtain ⟨l, h1, h2⟩ := line_part (ok.good p hp) (ok.fun_ p hp) (ok.free p hp) (ok.len p hp)
    have sub : ∀ x ∈ nmsP a, ∃ q ∈ ps, q.1 = x := fun x hx => by
      obtain ⟨q, hq, rfl⟩ := List.mem_map.1 hx; exact ⟨q, by rw [e]; exact List.mem_append_left _ hq, rfl⟩
    have st : canStand l la = true := by
      refine stand_of h.name ?_ ?_ ?_ ?_ ?_ ?_
      · intro hr; obtain ⟨q, hq, hh⟩ := sub _ hr; exact free_run (ok.free q hq) hh
      · rw [h2.name]
        have hnd := ok.nodup
        rw [e] at hnd; unfold nmsP at hnd ⊢; rw [List.map_append, List.map_cons] at hnd
        intro hm
        exact (List.nodup_append.1 hnd).2.2 _ hm _ (List.mem_cons_self ..) rfl
      · rintro ⟨_, h3⟩
        have := ok.few
        rw [e] at this; simp [nmsP] at h3 this; omega
      · intro hm; rw [h2.name] at hm; exact ok.apart p hp p hp (h2.bnd _ hm)
      · intro o ho hm
        obtain ⟨q, hq, hh⟩ := h.of o ho
        rw [h2.name] at hm
        exact ok.apart p hp q hq (hh.bnd _ hm)
      · intro x hx hm
        obtain ⟨q, hq, rfl⟩ := sub _ hm
        exact ok.apart q hq p hp (h2.bnd _ hx)
    have hr : Read ps (a ++ [p]) (la ++ [l]) := by
      refine ⟨?_, ?_, fun x hx => ?_⟩
      · rw [List.map_append, h.name]; unfold nmsP; rw [List.map_append]; simp [h2.name]
      · rw [List.map_append, h.told, List.map_append]; simp [h2.told, partT]
      · rcases List.mem_append.1 hx with hx | hx
        · exact h.of x hx
        · rw [List.mem_singleton.1 hx]; exact ⟨p, hp, h2⟩
    obtain ⟨ls, k1, k2⟩ := ih (rest := rest) (by rw [e]; simp) hr
    refine ⟨ls, ?_, k2⟩
    rw [← k1]
    show linesM (partT p :: (b.map partT ++ rest)) la = _
    rw [linesM.eq_2, show readLine (partT p) = some l from h1]
    dsimp only
    rw [if_pos st]
theorem linesM_parts {ps : List Pt} (ok : PtsOk ps) {rest : List Wd} : ∃ ls, linesM (ps.map partT ++ rest) [] = linesM rest ls ∧ Read ps ps ls :=
  linesM_step ok (a := []) (by simp) ⟨rfl, rfl, fun l hl => by cases hl⟩
theorem partT_plain {ps : List Pt} (ok : PtsOk ps) : ∀ t ∈ ps.map partT, 10 ∉ t := by
  intro t ht
  obtain ⟨p, hp, rfl⟩ := List.mem_map.1 ht
  refine plain_join fun w hw => ?_
  rcases List.mem_cons.1 hw with rfl | hw
  · decide
  · rcases List.mem_cons.1 hw with rfl | hw
    · exact (plain_free (ok.free p hp)).2
    · exact (Tr.plain (ok.good p hp).ok w hw).2
theorem runT_plain {ps : List Pt} {e : Tr} (ok : RunOk ps e) : 10 ∉ runT e := by
  refine plain_join fun w hw => ?_
  rcases List.mem_cons.1 hw with rfl | hw
  · decide
  · exact (Tr.plain ok.good.ok w hw).2
theorem firstUnknown_app {N : List Wd} : ∀ {a b : List Ln} {k : Nat}, (∀ l ∈ a, known N l = true) → firstUnknown N k (a ++ b) = firstUnknown N (k + a.length) b := by
  intro a
  induction a with
  | nil => intro b k h; rfl
  | cons l a ih =>
    intro b k h
    show (if known N l = true then firstUnknown N (k + 1) (a ++ b) else some k) = _
    rw [if_pos (h l (List.mem_cons_self ..)), ih fun x hx => h x (List.mem_cons_of_mem _ hx)]
    congr 1; simp; omega
theorem known_of {N : List Wd} {l : Ln} (h : ∀ x ∈ l.nodes, x.kind = PART → x.sign ∈ N) : known N l = true := by
  unfold known
  rw [List.all_eq_true]
  intro x hx
  by_cases hk : x.kind = PART
  · rw [show decide (x.sign ∈ N) = true from decide_eq_true (h x hx hk), Bool.or_true]
  · rw [show decide (x.kind = [112, 97, 114, 116]) = false from decide_eq_false hk]; rfl
def textT (ts : List Wd) : Wd := TL.joinL [10] ts
theorem readProg_lines {ps : List Pt} (ok : PtsOk ps) {rest : List Wd} (hr : ∀ t ∈ rest, 10 ∉ t) (hne : rest ≠ []) : ∃ ls, Read ps ps ls ∧ readProg (textT (ps.map partT ++ rest)) = (match linesM rest ls with
    | .error e => .error e
    | .ok ls => if (ls.getLastD default).name ≠ RUN then .error (ls.length + 1) else match firstUnknown (ls.dropLast.map (·.name)) 1 ls with
      | some k => .error k
      | none => .ok ls) := by
  obtain ⟨ls, h1, h2⟩ := linesM_parts ok (rest := rest)
  refine ⟨ls, h2, ?_⟩
  unfold readProg textT
  rw [TL.spl_join (by simp [hne]) (fun p hp => by rcases List.mem_append.1 hp with hp | hp; exact partT_plain ok p hp; exact hr p hp), h1]
  all_goals rfl
/-- a line that is none, behind the parts -/
theorem readProg_bad {ps : List Pt} (ok : PtsOk ps) {t : Wd} {rest : List Wd} (ht : ∀ x ∈ t :: rest, 10 ∉ x) (h : readLine t = none) : readProg (textT (ps.map partT ++ t :: rest)) = .error (ps.length + 1) := by
  obtain ⟨ls, h1, h2⟩ := readProg_lines ok ht (by simp)
  rw [h2, linesM.eq_2, h]
  dsimp only
  rw [h1.len]
theorem Read.known {ps : List Pt} {ls : List Ln} (h : Read ps ps ls) : ∀ l ∈ ls, known (nmsP ps) l = true := fun l hl => by
  obtain ⟨p, _, hh⟩ := h.of l hl; exact known_of hh.parts
theorem run_stand {ps : List Pt} (ok : PtsOk ps) {ls : List Ln} {l : Ln} (h : Read ps ps ls) (hn : l.name = RUN) (hb : ∀ x ∈ l.names, okFree x = true ∧ x ∉ nmsP ps) : canStand l ls = true := by
  have hr : RUN ∉ nmsP ps := fun hm => by
    obtain ⟨q, hq, hh⟩ := List.mem_map.1 hm; exact free_run (ok.free q hq) hh
  refine stand_of h.name hr (by rw [hn]; exact hr) (by rw [hn]; exact fun h => h.1 rfl) ?_ ?_ fun x hx => (hb x hx).2
  · rw [hn]; exact fun hm => free_run (hb _ hm).1 rfl
  · intro o ho hm
    rw [hn] at hm
    obtain ⟨q, hq, hh⟩ := h.of o ho
    exact free_run (Tr.bnd_free (ok.good q hq).ok _ (hh.bnd _ hm)) rfl
/-- what stands behind a line that is run -/
theorem readProg_run {ps : List Pt} (ok : PtsOk ps) {t : Wd} {l : Ln} (ht : 10 ∉ t) (hl : readLine t = some l) (hn : l.name = RUN) (hb : ∀ x ∈ l.names, okFree x = true ∧ x ∉ nmsP ps) : ∃ ls, Read ps ps ls ∧
    readProg (textT (ps.map partT ++ [t])) = if known (nmsP ps) l = true then .ok (ls ++ [l]) else .error (ps.length + 1) := by
  obtain ⟨ls, h1, h2⟩ := readProg_lines ok (rest := [t]) (fun x hx => by rw [List.mem_singleton.1 hx]; exact ht) (by simp)
  refine ⟨ls, h1, ?_⟩
  rw [h2, linesM.eq_2, hl]
  dsimp only
  rw [if_pos (run_stand ok h1 hn hb), linesM.eq_1]
  dsimp only
  rw [List.getLastD_concat, if_neg (by rw [hn]; exact fun h => h rfl), List.dropLast_concat, h1.name, firstUnknown_app h1.known]
  show (match (if known (nmsP ps) l = true then firstUnknown (nmsP ps) (1 + ls.length + 1) [] else some (1 + ls.length)) with | some k => _ | none => _) = _
  by_cases hk : known (nmsP ps) l = true
  · rw [if_pos hk, if_pos hk]; rfl
  · rw [if_neg hk, if_neg hk, h1.len, Nat.add_comm]
/-- a whole program -/
theorem readProg_tr {ps : List Pt} {e : Tr} (ok : PtsOk ps) (or : RunOk ps e) : ∃ ls l, Read ps ps ls ∧ LnOf (nmsP ps) e.bnd RUN (runT e) e.cnt l ∧ readProg (textT (ps.map partT ++ [runT e])) = .ok (ls ++ [l]) := by
  obtain ⟨l, h1, h2⟩ := line_run or.good or.len
  obtain ⟨ls, h3, h4⟩ := readProg_run ok (runT_plain or) h1 h2.name fun x hx => ⟨Tr.bnd_free or.good.ok x (h2.bnd x hx), fun hm => by
    obtain ⟨q, hq, rfl⟩ := List.mem_map.1 hm; exact or.apart q hq (h2.bnd _ hx)⟩
  exact ⟨ls, l, h3, h2, by rw [h4, if_pos (known_of h2.parts)]⟩
/-- a second line that is run -/
theorem readProg_two {ps : List Pt} (ok : PtsOk ps) {t u : Wd} {l m : Ln} (ht : 10 ∉ t) (hu : 10 ∉ u) (hl : readLine t = some l) (hn : l.name = RUN) (hb : ∀ x ∈ l.names, okFree x = true ∧ x ∉ nmsP ps) (hm : readLine u = some m) : readProg (textT (ps.map partT ++ [t, u])) = .error (ps.length + 2) := by
  obtain ⟨ls, h1, h2⟩ := readProg_lines ok (rest := [t, u]) (fun x hx => by
    rcases List.mem_cons.1 hx with rfl | hx
    · exact ht
    · rw [List.mem_singleton.1 hx]; exact hu) (by simp)
  rw [h2, linesM.eq_2, hl]
  dsimp only
  rw [if_pos (run_stand ok h1 hn hb), linesM.eq_2, hm]
  dsimp only
  have : canStand m (ls ++ [l]) = false := by
    unfold canStand; dsimp only
    rw [if_pos (Or.inl (by rw [List.map_append]; simp [hn]))]
  rw [this]
  simp [h1.len]
end Mi
set_option Elab.async false
set_option linter.all false
set_option maxRecDepth 100000
set_option maxHeartbeats 1000000
namespace Mi
abbrev CALL : Wd := [99, 97, 108, 108]
abbrev LETW : Wd := [108, 101, 116]
def NUM4 : List Wd := [[48], [49], [50], [51]]
def BNS : List Wd := [[120], [121], [122], [117], [107, 50], [110, 48], [114, 48], [113, 48]]
inductive Fill : List Wd → List Wd → Prop
  | nil : Fill [] []
  | keep {w : Wd} {r r' : List Wd} (h : w.head? ≠ some 64) (t : Fill r r') : Fill (w :: r) (w :: r')
  | at_ {w m : Wd} {r r' : List Wd} (h : m ∈ NUM4) (t : Fill r r') : Fill ((64 :: w) :: r) (CALL :: w :: m :: r')
theorem fill_nil {c : List Wd} (h : Fill [] c) : c = [] := by cases h; rfl
theorem fill_cons {w : Wd} {r c : List Wd} (hw : w.head? ≠ some 64) (h : Fill (w :: r) c) : ∃ r', c = w :: r' ∧ Fill r r' := by
  cases h with
  | keep _ t => exact ⟨_, rfl, t⟩
  | at_ _ t => exact absurd rfl hw
theorem fill_app : ∀ {a b c : List Wd}, Fill (a ++ b) c → ∃ a' b', c = a' ++ b' ∧ Fill a a' ∧ Fill b b' := by
  intro a
  induction a with
  | nil => intro b c h; exact ⟨[], c, rfl, .nil, h⟩
  | cons w r ih =>
    intro b c h
    cases h with
    | keep hw t => obtain ⟨a', b', rfl, h1, h2⟩ := ih t; exact ⟨_ :: a', b', rfl, .keep hw h1, h2⟩
    | at_ hm t => obtain ⟨a', b', rfl, h1, h2⟩ := ih t; exact ⟨_ :: _ :: _ :: a', b', rfl, .at_ hm h1, h2⟩
theorem Tr.Sc.mono {P P' : List Wd} (hp : ∀ x ∈ P, x ∈ P') : ∀ {e : Tr} {G G' : List Wd}, (∀ x ∈ G, x ∈ G') → e.Sc P G → e.Sc P' G' := by
  have ap : ∀ {n G G' : List Wd}, (∀ x ∈ G, x ∈ G') → ∀ x ∈ n ++ G, x ∈ n ++ G' := fun h x hx => by
    rcases List.mem_append.1 hx with hx | hx
    · exact List.mem_append_left _ hx
    · exact List.mem_append_right _ (h x hx)
  intro e
  induction e with
  | leaf w => intro G G' h s hf; rcases s hf with z | z; exact Or.inl (h _ z); exact Or.inr (hp _ z)
  | un s n a iha => intro G G' h sc; exact iha (ap h) sc
  | bi s n a b iha ihb => intro G G' h sc; exact ⟨iha h sc.1, ihb (ap h) sc.2⟩
  | tri s a b c iha ihb ihc => intro G G' h sc; exact ⟨iha h sc.1, ihb h sc.2.1, ihc h sc.2.2⟩
/-- however calls are filled in, the words are those of an expression -/
def Out (B P : List Wd) (d : Nat) (ws : List Wd) : Prop := ∀ c, Fill ws c → ∃ e : Tr, e.words = c ∧ e.Ok ∧ e.dep ≤ d ∧ e.Sc P B ∧ ∀ x ∈ e.bnd, x ∈ BNS
theorem Out.mono {B B' P P' : List Wd} {d d' : Nat} {ws : List Wd} (h : Out B P d ws) (hb : ∀ x ∈ B, x ∈ B') (hp : ∀ x ∈ P, x ∈ P') (hd : d ≤ d') : Out B' P' d' ws := fun c hc => by
  obtain ⟨e, h1, h2, h3, h4, h5⟩ := h c hc
  exact ⟨e, h1, h2, Nat.le_trans h3 hd, h4.mono hp hb, h5⟩
theorem free_head {x : Wd} (h : okFree x = true) : x.head? ≠ some 64 := by
  cases x with
  | nil => exact fun z => by cases z
  | cons c r =>
    intro z
    have : c = 64 := by simpa using z
    subst this
    revert h
    simp only [okFree, nameOk]
    rw [show isLet ((64 :: r).getD 0 0) = false from by show isLet 64 = false; decide]
    simp
theorem ari_head {s : Wd} {k : Nat} (h : ari s = some k) : s.head? ≠ some 64 := by
  intro z
  cases s with
  | nil => cases z
  | cons c r =>
    have : c = 64 := by simpa using z
    subst this
    revert h
    simp [ari, ARI, List.lookup]
theorem bns_free {n : Wd} (h : n ∈ BNS) : okFree n = true ∧ n ≠ [] := by
  have : ∀ n ∈ BNS, okFree n = true ∧ n ≠ [] := by decide
  exact this n h
theorem ari_free {x : Wd} (h : okFree x = true) : ari x = none := by
  simp only [okFree, Bool.and_eq_true] at h
  exact Option.isNone_iff_eq_none.1 h.1.2
theorem out_name {B P : List Wd} {x : Wd} (hf : okFree x = true) (h : x ∈ B ∨ x ∈ P) : Out B P 1 [x] := fun c hc => by
  obtain ⟨r, rfl, hr⟩ := fill_cons (free_head hf) hc
  rw [fill_nil hr]
  exact ⟨.leaf x, rfl, ⟨ari_free hf, Or.inl hf⟩, Nat.le_refl 1, fun _ => h, fun y hy => by cases hy⟩
theorem out_num {B P : List Wd} {x : Wd} (h0 : ari x = none) (h1 : written x = true) (h2 : okFree x = false) (h3 : x.head? ≠ some 64) : Out B P 1 [x] := fun c hc => by
  obtain ⟨r, rfl, hr⟩ := fill_cons h3 hc
  rw [fill_nil hr]
  exact ⟨.leaf x, rfl, ⟨h0, Or.inr h1⟩, Nat.le_refl 1, fun z => absurd (h2.symm.trans z) (by decide), fun y hy => by cases hy⟩
theorem out_at {B P : List Wd} {x : Wd} (hf : okFree x = true) (h : x ∈ P) : Out B P 2 [64 :: x] := fun c hc => by
  cases hc with
  | keep hw t => exact absurd rfl hw
  | at_ hm t =>
    rw [fill_nil t]
    rename_i m r'
    have nm : ∀ m ∈ NUM4, ari m = none ∧ written m = true ∧ okFree m = false := by decide
    obtain ⟨a1, a2, a3⟩ := nm m hm
    exact ⟨.bi CALL [] (.leaf x) (.leaf m), rfl, ⟨rfl, ⟨fun z => absurd z (by decide), fun _ => rfl⟩, ⟨ari_free hf, Or.inl hf⟩, ⟨a1, Or.inr a2⟩⟩, Nat.le_refl 2, ⟨fun _ => Or.inr h, fun z => absurd (a3.symm.trans z) (by decide)⟩, fun y hy => by cases hy⟩
theorem out_un {B P : List Wd} {d : Nat} {s : Wd} {a : List Wd} (hs : ari s = some 1) (hb : isBind s = false) (h : Out B P d a) : Out B P (d + 1) (s :: a) := fun c hc => by
  obtain ⟨r, rfl, hr⟩ := fill_cons (ari_head hs) hc
  obtain ⟨e, rfl, h2, h3, h4, h5⟩ := h r hr
  exact ⟨.un s [] e, rfl, ⟨hs, ⟨fun z => absurd (hb.symm.trans z) (by decide), fun _ => rfl⟩, h2⟩, by show 1 + e.dep ≤ d + 1; omega, h4, h5⟩
theorem out_fun {B P : List Wd} {d : Nat} {n : Wd} {a : List Wd} (hn : n ∈ BNS) (h : Out (n :: B) P d a) : Out B P (d + 1) (FUN :: n :: a) := fun c hc => by
  obtain ⟨hf, hne⟩ := bns_free hn
  obtain ⟨r, rfl, hr⟩ := fill_cons (by decide) hc
  obtain ⟨r, rfl, hr2⟩ := fill_cons (free_head hf) hr
  obtain ⟨e, rfl, h2, h3, h4, h5⟩ := h r hr2
  have nw : nmW n = [n] := by unfold nmW; rw [if_neg hne]
  refine ⟨.un FUN n e, by simp only [Tr.words, nw]; rfl, ⟨rfl, ⟨fun _ => ⟨hne, hf⟩, fun z => absurd z (by decide)⟩, h2⟩, by show 1 + e.dep ≤ d + 1; omega, by show Tr.Sc P (nmW n ++ B) e; rw [nw]; exact h4, fun x hx => ?_⟩
  rcases List.mem_append.1 (show x ∈ nmW n ++ e.bnd from hx) with hx | hx
  · rw [nw] at hx; rw [List.mem_singleton.1 hx]; exact hn
  · exact h5 x hx
theorem out_bi {B P : List Wd} {d : Nat} {s : Wd} {a b : List Wd} (hs : ari s = some 2) (hb : isBind s = false) (h : Out B P d a) (h' : Out B P d b) : Out B P (d + 1) (s :: (a ++ b)) := fun c hc => by
  obtain ⟨r, rfl, hr⟩ := fill_cons (ari_head hs) hc
  obtain ⟨a', b', rfl, ha, hb'⟩ := fill_app hr
  obtain ⟨e, rfl, h2, h3, h4, h5⟩ := h _ ha
  obtain ⟨e', rfl, g2, g3, g4, g5⟩ := h' _ hb'
  refine ⟨.bi s [] e e', rfl, ⟨hs, ⟨fun z => absurd (hb.symm.trans z) (by decide), fun _ => rfl⟩, h2, g2⟩, by show 1 + max e.dep e'.dep ≤ d + 1; omega, ⟨h4, g4⟩, fun x hx => ?_⟩
  rcases List.mem_append.1 (show x ∈ e.bnd ++ e'.bnd from hx) with hx | hx
  · exact h5 x hx
  · exact g5 x hx
theorem out_let {B P : List Wd} {d : Nat} {n : Wd} {a b : List Wd} (hn : n ∈ BNS) (h : Out B P d a) (h' : Out (n :: B) P d b) : Out B P (d + 1) (LETW :: n :: (a ++ b)) := fun c hc => by
  obtain ⟨hf, hne⟩ := bns_free hn
  obtain ⟨r, rfl, hr⟩ := fill_cons (by decide) hc
  obtain ⟨r, rfl, hr2⟩ := fill_cons (free_head hf) hr
  obtain ⟨a', b', rfl, ha, hb'⟩ := fill_app hr2
  obtain ⟨e, rfl, h2, h3, h4, h5⟩ := h _ ha
  obtain ⟨e', rfl, g2, g3, g4, g5⟩ := h' _ hb'
  have nw : nmW n = [n] := by unfold nmW; rw [if_neg hne]
  refine ⟨.bi LETW n e e', by simp only [Tr.words, nw]; rfl, ⟨rfl, ⟨fun _ => ⟨hne, hf⟩, fun z => absurd z (by decide)⟩, h2, g2⟩, by show 1 + max e.dep e'.dep ≤ d + 1; omega, ⟨h4, by show Tr.Sc P (nmW n ++ B) e'; rw [nw]; exact g4⟩, fun x hx => ?_⟩
  rcases List.mem_append.1 (show x ∈ nmW n ++ (e.bnd ++ e'.bnd) from hx) with hx | hx
  · rw [nw] at hx; rw [List.mem_singleton.1 hx]; exact hn
  · rcases List.mem_append.1 hx with hx | hx
    · exact h5 x hx
    · exact g5 x hx
theorem out_tri {B P : List Wd} {d : Nat} {s : Wd} {a b c : List Wd} (hs : ari s = some 3) (hb : isBind s = false) (h : Out B P d a) (h' : Out B P d b) (h'' : Out B P d c) : Out B P (d + 1) (s :: (a ++ (b ++ c))) := fun f hc => by
  obtain ⟨r, rfl, hr⟩ := fill_cons (ari_head hs) hc
  obtain ⟨a', b', rfl, ha, hb'⟩ := fill_app hr
  obtain ⟨b1, c1, rfl, hb1, hc1⟩ := fill_app hb'
  obtain ⟨e, rfl, h2, h3, h4, h5⟩ := h _ ha
  obtain ⟨e', rfl, g2, g3, g4, g5⟩ := h' _ hb1
  obtain ⟨e'', rfl, k2, k3, k4, k5⟩ := h'' _ hc1
  refine ⟨.tri s e e' e'', rfl, ⟨hs, hb, h2, g2, k2⟩, by show 1 + max e.dep (max e'.dep e''.dep) ≤ d + 1; omega, ⟨h4, g4, k4⟩, fun x hx => ?_⟩
  rcases List.mem_append.1 (show x ∈ e.bnd ++ (e'.bnd ++ e''.bnd) from hx) with hx | hx
  · exact h5 x hx
  · rcases List.mem_append.1 hx with hx | hx
    · exact g5 x hx
    · exact k5 x hx
/-- a name of the list of names: one that is bound, or a call that is filled in -/
def NmOk (B P : List Wd) (x : Wd) : Prop := (okFree x = true ∧ x ∈ B) ∨ ∃ y, x = 64 :: y ∧ okFree y = true ∧ y ∈ P
def PtOk (P : List Wd) (x : Wd) : Prop := okFree x = true ∧ x ∈ P
theorem NmOk.out {B P : List Wd} {x : Wd} (h : NmOk B P x) : Out B P 2 [x] := by
  rcases h with ⟨h1, h2⟩ | ⟨y, rfl, h1, h2⟩
  · exact (out_name h1 (Or.inl h2)).mono (fun _ h => h) (fun _ h => h) (by omega)
  · exact out_at h1 h2
theorem PtOk.out {B P : List Wd} {x : Wd} (h : PtOk P x) : Out B P 2 [x] := (out_name h.1 (Or.inr h.2)).mono (fun _ h => h) (fun _ h => h) (by omega)
end Mi
set_option Elab.async false
set_option linter.all false
set_option maxRecDepth 100000
set_option maxHeartbeats 1000000
namespace Mi
def NMS4 : List Wd := [[102], [103], [112, 97, 114, 116, 51], [104, 52]]
structure PreOk (N : List Wd) (L : List (Wd × List Wd)) : Prop where
  names : L.map (·.1) = N
  fun_ : ∀ x ∈ L, ∃ r, x.2 = FUN :: r
  out : ∀ x ∈ L, Out [] N 20 x.2
theorem nms4_free {n : Wd} (h : n ∈ NMS4) : okFree n = true ∧ n ∉ BNS := by
  have : ∀ n ∈ NMS4, okFree n = true ∧ n ∉ BNS := by decide
  exact this n h
theorem nms4_nodup : ∀ k, (NMS4.take k).Nodup := fun k => List.Nodup.sublist (List.take_sublist ..) (by decide)
/-- lines filled in -/
inductive Fills : List (List Wd) → List (List Wd) → Prop
  | nil : Fills [] []
  | cons {a c : List Wd} {as cs : List (List Wd)} (h : Fill a c) (t : Fills as cs) : Fills (a :: as) (c :: cs)
theorem Fills.two {a b c d : List (List Wd)} (h : Fills a b) (h2 : Fills c d) : Fills (a ++ c) (b ++ d) := by
  induction h with
  | nil => exact h2
  | cons h t ih => exact .cons h ih
theorem fills_app : ∀ {a b c : List (List Wd)}, Fills (a ++ b) c → ∃ a' b', c = a' ++ b' ∧ Fills a a' ∧ Fills b b' := by
  intro a
  induction a with
  | nil => intro b c h; exact ⟨[], c, rfl, .nil, h⟩
  | cons w r ih =>
    intro b c h
    cases h with
    | cons hw t => obtain ⟨a', b', rfl, h1, h2⟩ := ih t; exact ⟨_ :: a', b', rfl, .cons hw h1, h2⟩
def preL (x : Wd × List Wd) : List Wd := PART :: x.1 :: x.2
def partW (p : Pt) : List Wd := partWs p.1 p.2
/-- what a part's line comes to -/
structure PartOf (N : List Wd) (nm : Wd) (p : Pt) : Prop where
  name : p.1 = nm
  fun_ : p.2.rs = FUN
  good : p.2.Good N
  bnd : ∀ x ∈ p.2.bnd, x ∈ BNS
theorem part_of {N : List Wd} {x : Wd × List Wd} {c r : List Wd} (hn : okFree x.1 = true) (hx : x.2 = FUN :: r) (ho : Out [] N 20 x.2) (h : Fill (preL x) c) : ∃ p : Pt, c = partW p ∧ PartOf N x.1 p := by
  obtain ⟨c1, rfl, h1⟩ := fill_cons (by decide) h
  obtain ⟨c2, rfl, h2⟩ := fill_cons (free_head hn) h1
  obtain ⟨e, rfl, e1, e2, e3, e4⟩ := ho c2 h2
  rw [hx] at h2
  obtain ⟨c3, h3, _⟩ := fill_cons (by decide) h2
  obtain ⟨q, hq⟩ := e.words_eq
  rw [hq] at h3
  injection h3 with h3 _
  exact ⟨(x.1, e), rfl, ⟨rfl, h3, ⟨e1, Nat.le_trans e2 (by decide), e3⟩, e4⟩⟩
theorem parts_of {N : List Wd} : ∀ {L : List (Wd × List Wd)} {cs : List (List Wd)}, (∀ x ∈ L, okFree x.1 = true) → (∀ x ∈ L, ∃ r, x.2 = FUN :: r) → (∀ x ∈ L, Out [] N 20 x.2) → Fills (L.map preL) cs → ∃ ps : List Pt, cs = ps.map partW ∧ nmsP ps = L.map (·.1) ∧ ∀ p ∈ ps, ∃ nm, PartOf N nm p := by
  intro L
  induction L with
  | nil => intro cs _ _ _ h; cases h; exact ⟨[], rfl, rfl, fun p hp => by cases hp⟩
  | cons x L ih =>
    intro cs hn hx ho h
    cases h with
    | cons h t =>
      obtain ⟨r, hr⟩ := hx x (List.mem_cons_self ..)
      obtain ⟨p, rfl, hp⟩ := part_of (hn x (List.mem_cons_self ..)) hr (ho x (List.mem_cons_self ..)) h
      obtain ⟨ps, rfl, h2, h3⟩ := ih (fun y hy => hn y (List.mem_cons_of_mem _ hy)) (fun y hy => hx y (List.mem_cons_of_mem _ hy)) (fun y hy => ho y (List.mem_cons_of_mem _ hy)) t
      refine ⟨p :: ps, rfl, ?_, fun y hy => ?_⟩
      · show p.1 :: nmsP ps = x.1 :: L.map (·.1)
        rw [hp.name, h2]
      · rcases List.mem_cons.1 hy with rfl | hy
        · exact ⟨_, hp⟩
        · exact h3 y hy
/-- whose names these are -/
structure Bns (ps : List Pt) (e : Tr) : Prop where
  nm : ∀ n ∈ nmsP ps, n ∈ NMS4
  bp : ∀ p ∈ ps, ∀ x ∈ p.2.bnd, x ∈ BNS
  br : ∀ x ∈ e.bnd, x ∈ BNS
  dp : e.dep ≤ 20
/-- a drawn program is one -/
theorem drawn_ok {L : List (Wd × List Wd)} {k : Nat} {run : List Wd} {cs : List (List Wd)} (h : PreOk (NMS4.take k) L) (hr : Out [] (NMS4.take k) 20 run) (hf : Fills (L.map preL ++ [RUN :: run]) cs) (hl : ∀ c ∈ cs, c.length ≤ 100) : ∃ (ps : List Pt) (e : Tr), PtsOk ps ∧ RunOk ps e ∧ cs = ps.map partW ++ [runWs e] ∧ nmsP ps = NMS4.take k ∧ Bns ps e := by
  obtain ⟨cs1, cs2, rfl, h1, h2⟩ := fills_app hf
  have mem : ∀ x ∈ L, x.1 ∈ NMS4.take k := fun x hx => by rw [← h.names]; exact List.mem_map_of_mem hx
  have m4 : ∀ n ∈ NMS4.take k, n ∈ NMS4 := fun n hn => List.mem_of_mem_take hn
  obtain ⟨ps, rfl, p2, p3⟩ := parts_of (fun x hx => (nms4_free (m4 _ (mem x hx))).1) h.fun_ h.out h1
  rw [h.names] at p2
  cases h2 with
  | cons hc t =>
    cases t
    obtain ⟨c1, rfl, h3⟩ := fill_cons (by decide) hc
    obtain ⟨e, rfl, e1, e2, e3, e4⟩ := hr c1 h3
    have nm : ∀ p ∈ ps, p.1 ∈ NMS4 := fun p hp => m4 _ (by rw [← p2]; exact List.mem_map_of_mem hp)
    refine ⟨ps, e, ⟨?_, ?_, ?_, ?_, ?_, ?_, ?_⟩, ⟨?_, ?_, ?_⟩, rfl, p2, ⟨fun n hn => m4 n (by rw [← p2]; exact hn), fun p hp x hx => by obtain ⟨_, h5⟩ := p3 p hp; exact h5.bnd x hx, e4, e2⟩⟩
    · have h4 : ps.length = (NMS4.take k).length := by rw [← p2]; simp [nmsP]
      rw [h4, List.length_take]; have : NMS4.length = 4 := rfl; omega
    · rw [p2]; exact nms4_nodup k
    · exact fun p hp => (nms4_free (nm p hp)).1
    · intro p hp; obtain ⟨_, h5⟩ := p3 p hp; exact h5.fun_
    · intro p hp; obtain ⟨_, h5⟩ := p3 p hp; rw [p2]; exact h5.good
    · intro p hp
      have := hl (partW p) (List.mem_append_left _ (List.mem_map_of_mem hp))
      exact Nat.le_trans this (by omega)
    · intro p hp q hq hm
      obtain ⟨_, h5⟩ := p3 q hq
      exact (nms4_free (nm p hp)).2 (h5.bnd _ hm)
    · rw [p2]; exact ⟨e1, by omega, e3⟩
    · have := hl (RUN :: e.words) (List.mem_append_right _ (List.mem_singleton.2 rfl))
      exact Nat.le_trans this (by omega)
    · exact fun p hp hm => (nms4_free (nm p hp)).2 (e4 _ hm)
end Mi
set_option Elab.async false
set_option linter.all false
set_option maxRecDepth 100000
set_option maxHeartbeats 1000000
namespace Mi
theorem joinL_len {s : Nat} : ∀ {ws : List Wd} {n : Nat}, (∀ w ∈ ws, w.length ≤ n) → (TL.joinL [s] ws).length ≤ ws.length * (n + 1) := by
  intro ws
  induction ws with
  | nil => intro n h; rw [TL.joinL.eq_1]; exact Nat.zero_le _
  | cons a r ih =>
    intro n h
    have ha := h a (List.mem_cons_self ..)
    have hr := ih fun w hw => h w (List.mem_cons_of_mem _ hw)
    cases r with
    | nil => rw [TL.joinL.eq_2]; simp; omega
    | cons b r =>
      rw [TL.joinL.eq_3, List.length_append, List.length_append]
      have e : (a :: b :: r).length * (n + 1) = (b :: r).length * (n + 1) + (n + 1) := Nat.succ_mul _ _
      rw [e]
      have e1 : ([s] : List Nat).length = 1 := rfl
      rw [e1]
      omega
/-- the text of a drawn program is not too long -/
theorem drawn_text {ps : List Pt} {e : Tr} (ok : PtsOk ps) (or : RunOk ps e) (h4 : ps.length ≤ 4) (hl : ∀ c ∈ ps.map partW ++ [runWs e], c.length ≤ 100) (h8 : ∀ c ∈ ps.map partW ++ [runWs e], ∀ w ∈ c, w.length ≤ 8) :
    (textT (ps.map partT ++ [runT e])).length ≤ 9000 ∧ (TL.spl [10] 0 [] (textT (ps.map partT ++ [runT e]))).length ≤ 901 := by
  constructor
  · have h := joinL_len (s := 10) (ws := ps.map partT ++ [runT e]) (n := 900) fun t ht => by
      have lt : ∀ c ∈ ps.map partW ++ [runWs e], (TL.joinL [32] c).length ≤ 900 := fun c hc => by
        have h1 := joinL_len (s := 32) (h8 c hc)
        have h2 := hl c hc
        omega
      rcases List.mem_append.1 ht with ht | ht
      · obtain ⟨p, hp, rfl⟩ := List.mem_map.1 ht
        exact lt (partW p) (List.mem_append_left _ (List.mem_map_of_mem hp))
      · rw [List.mem_singleton.1 ht]
        exact lt (runWs e) (List.mem_append_right _ (List.mem_singleton.2 rfl))
    have h2 : (ps.map partT ++ [runT e]).length ≤ 5 := by simp; omega
    have h3 : (ps.map partT ++ [runT e]).length * (900 + 1) ≤ 5 * 901 := Nat.mul_le_mul_right _ h2
    unfold textT; omega
  · unfold textT
    rw [TL.spl_join (by simp) (fun p hp => by
      rcases List.mem_append.1 hp with hp | hp
      · exact partT_plain ok p hp
      · rw [List.mem_singleton.1 hp]; exact runT_plain or)]
    simp; omega
end Mi
set_option Elab.async false
set_option linter.all false
set_option maxRecDepth 100000
set_option maxHeartbeats 1000000
namespace Mi
/-- k expressions are still to come -/
def scan : Nat → List Wd → Bool
  | 0, [] => true
  | 0, _ :: _ => false
  | _ + 1, [] => false
  | k + 1, w :: r => match ari w with
    | some a => if isBind w = true then (match r with
        | [] => false
        | n :: r' => okFree n && scan (k + a) r') else scan (k + a) r
    | none => (okFree w || written w) && scan k r
def mis (ns : List Nd) (i : Nat) : Nat := (ari (nth ns i).kind).getD 0 - (nth ns i).within.length
def lack (ns : List Nd) (wt : List Nat) : Nat := (wt.map (mis ns)).sum
structure WtOk (ns : List Nd) (wt : List Nat) : Prop where
  lt : ∀ i ∈ wt, i < ns.length
  nd : wt.Nodup
  le : ∀ i ∈ wt, (nth ns i).within.length ≤ (ari (nth ns i).kind).getD 0
theorem popF_three {ns : List Nd} : ∀ {n : Nat} {wt : List Nat}, wt.length = n → (∃ r, wt = popF ns wt ++ r) ∧ lack ns (popF ns wt) = lack ns wt ∧ ∀ i, (popF ns wt).getLast? = some i → full ns i = false := by
  intro n
  induction n with
  | zero =>
    intro wt h
    have : wt = [] := List.length_eq_zero_iff.1 h
    subst this
    exact ⟨⟨[], rfl⟩, rfl, fun i hi => by cases hi⟩
  | succ n ih =>
    intro wt h
    rcases List.eq_nil_or_concat wt with rfl | ⟨l, i, rfl⟩
    · cases h
    · rw [List.concat_eq_append] at h ⊢
      have hl : l.length = n := by simpa using h
      obtain ⟨⟨r, h1⟩, h2, h3⟩ := ih hl
      cases hf : full ns i with
      | true =>
        rw [popF_full hf]
        refine ⟨⟨r ++ [i], by rw [← List.append_assoc, ← h1]⟩, ?_, h3⟩
        rw [h2]
        unfold lack
        rw [List.map_append, List.sum_append]
        have : mis ns i = 0 := by unfold full at hf; have := of_decide_eq_true hf; unfold mis; omega
        simp [this]
      | false =>
        rw [popF_open hf]
        refine ⟨⟨[], by simp⟩, rfl, fun j hj => ?_⟩
        rw [List.getLast?_concat] at hj
        cases hj
        exact hf
theorem lack_congr {ns ms : List Nd} {wt : List Nat} (h : ∀ j ∈ wt, nth ms j = nth ns j) : lack ms wt = lack ns wt := by
  unfold lack
  congr 1
  exact List.map_congr_left fun j hj => by unfold mis; rw [h j hj]
/-- one node more -/
theorem hang_ok {ns : List Nd} {wt : List Nat} {nd : Nd} (ok : WtOk ns wt) (la : ∀ i, wt.getLast? = some i → full ns i = false) (hw : nd.within = []) (h0 : wt ≠ [] ∨ ns = []) :
    WtOk (addIn (ns ++ [nd]) wt ns.length) (popF (addIn (ns ++ [nd]) wt ns.length) (wt ++ [ns.length])) ∧ (∀ i, (popF (addIn (ns ++ [nd]) wt ns.length) (wt ++ [ns.length])).getLast? = some i → full (addIn (ns ++ [nd]) wt ns.length) i = false) ∧
      lack (addIn (ns ++ [nd]) wt ns.length) (popF (addIn (ns ++ [nd]) wt ns.length) (wt ++ [ns.length])) + 1 = (if ns = [] then 1 else lack ns wt) + (ari nd.kind).getD 0 := by
  obtain ⟨a1, a2⟩ := addIn_nth (ns := ns) (nd := nd) ok.lt
  have al : (addIn (ns ++ [nd]) wt ns.length).length = ns.length + 1 := by rw [addIn_len]; simp
  generalize addIn (ns ++ [nd]) wt ns.length = ms at a1 a2 al
  obtain ⟨⟨r, p1⟩, p2, p3⟩ := popF_three (ns := ms) (n := (wt ++ [ns.length]).length) (wt := wt ++ [ns.length]) rfl
  have hsub : ∀ i ∈ popF ms (wt ++ [ns.length]), i ∈ wt ++ [ns.length] := fun i hi => by rw [p1]; exact List.mem_append_left _ hi
  have hin : ∀ i ∈ wt ++ [ns.length], (i ∈ wt ∧ i < ns.length) ∨ i = ns.length := fun i hi => by
    rcases List.mem_append.1 hi with h | h
    · exact .inl ⟨h, ok.lt i h⟩
    · exact .inr (List.mem_singleton.1 h)
  have wlen : ∀ i ∈ wt, wt.getLast? ≠ some i → nth ms i = nth ns i := fun i hi hn => by rw [a1 i (ok.lt i hi)]; unfold withIn; rw [if_neg hn]
  have wlast : ∀ i ∈ wt, wt.getLast? = some i → (nth ms i).within.length = (nth ns i).within.length + 1 ∧ (nth ms i).kind = (nth ns i).kind := fun i hi hn => by
    rw [a1 i (ok.lt i hi)]; unfold withIn; rw [if_pos hn]; exact ⟨by simp, rfl⟩
  have room : ∀ i, wt.getLast? = some i → (nth ns i).within.length < (ari (nth ns i).kind).getD 0 := fun i hi => by
    have h1 := la i hi
    have h2 := ok.le i (List.mem_of_getLast? hi)
    unfold full at h1
    have := of_decide_eq_false h1
    omega
  refine ⟨⟨fun i hi => ?_, ?_, fun i hi => ?_⟩, p3, ?_⟩
  · rw [al]
    rcases hin i (hsub i hi) with h | h
    · omega
    · omega
  · have h : (wt ++ [ns.length]).Nodup := List.nodup_append.2 ⟨ok.nd, by simp, fun a ha b hb => by have := ok.lt a ha; have := List.mem_singleton.1 hb; omega⟩
    rw [p1] at h
    exact (List.nodup_append.1 h).1
  · rcases hin i (hsub i hi) with h | h
    · by_cases hl : wt.getLast? = some i
      · obtain ⟨e1, e2⟩ := wlast i h.1 hl
        have := room i hl
        rw [e1, e2]; omega
      · rw [wlen i h.1 hl]; exact ok.le i h.1
    · rw [h, a2, hw]; exact Nat.zero_le _
  · rw [p2]
    unfold lack
    rw [List.map_append, List.sum_append]
    have hnew : mis ms ns.length = (ari nd.kind).getD 0 := by unfold mis; rw [a2, hw]; rfl
    have hs : ([ns.length].map (mis ms)).sum = (ari nd.kind).getD 0 := by simp [hnew]
    rw [hs]
    rcases List.eq_nil_or_concat wt with rfl | ⟨l, i, rfl⟩
    · rcases h0 with h | h
      · exact absurd rfl h
      · rw [if_pos h]; simp; omega
    · rw [List.concat_eq_append] at *
      have hn : ns ≠ [] := fun z => by have := ok.lt i (by simp); rw [z] at this; exact absurd this (Nat.not_lt_zero _)
      rw [if_neg hn]
      have hlast : (l ++ [i]).getLast? = some i := last_app
      have hl : ∀ j ∈ l, nth ms j = nth ns j := fun j hj => wlen j (by simp [hj]) fun z => by
        rw [hlast] at z
        injection z with z
        have := (List.nodup_append.1 ok.nd).2.2 j hj i (by simp)
        exact this z.symm
      have h1 := lack_congr hl
      unfold lack at h1
      obtain ⟨e1, e2⟩ := wlast i (by simp) hlast
      have := room i hlast
      have hm : mis ms i + 1 = mis ns i := by unfold mis; rw [e1, e2]; omega
      rw [List.map_append, List.map_append, List.sum_append, List.sum_append, h1]
      simp only [List.map_cons, List.map_nil, List.sum_cons, List.sum_nil]
      omega
theorem readNd_some {ws : List Wd} {at_ : Nat} {o : Option Nat} {l : Nat} {nd : Nd} (h : readNd ws at_ o l = some nd) : nd.within = [] ∧
    ((∃ a, ari (ws.getD at_ []) = some a ∧ ari nd.kind = some a ∧ ((isBind (ws.getD at_ []) = true ∧ at_ + 1 < ws.length ∧ okFree (ws.getD (at_ + 1) []) = true ∧ nd.named ≠ []) ∨ (isBind (ws.getD at_ []) = false ∧ nd.named = []))) ∨
      (ari (ws.getD at_ []) = none ∧ (okFree (ws.getD at_ []) = true ∨ written (ws.getD at_ []) = true) ∧ ari nd.kind = none ∧ nd.named = [])) := by
  unfold readNd at h
  dsimp only at h
  split at h
  · cases h
  · split at h
    · rename_i h1
      obtain ⟨a, ha⟩ := Option.isSome_iff_exists.1 h1
      split at h
      · rename_i hb
        by_cases hlt : at_ + 1 < ws.length
        · rw [if_pos hlt] at h
          split at h
          · rename_i hf
            injection h with h
            subst h
            exact ⟨rfl, .inl ⟨a, ha, ha, .inl ⟨hb, hlt, hf, fun z => by rw [show ws.getD (at_ + 1) [] = [] from z] at hf; revert hf; decide⟩⟩⟩
          · cases h
        · rw [if_neg hlt, if_neg (by decide)] at h
          cases h
      · rename_i hb
        injection h with h
        subst h
        exact ⟨rfl, .inl ⟨a, ha, ha, .inr ⟨by simpa using hb, rfl⟩⟩⟩
    · rename_i h1
      have hn : ari (ws.getD at_ []) = none := by simpa using h1
      split at h
      · rename_i hf
        injection h with h
        subst h
        exact ⟨rfl, .inr ⟨hn, .inl hf, (by show ari [110, 97, 109, 101] = none; decide), rfl⟩⟩
      · split at h
        · rename_i hw
          injection h with h
          subst h
          exact ⟨rfl, .inr ⟨hn, .inr hw, (by show ari [110, 117, 109, 98, 101, 114] = none; decide), rfl⟩⟩
        · cases h
theorem drop_getD {ws : List Wd} {i : Nat} (h : i < ws.length) : ws.drop i = ws.getD i [] :: ws.drop (i + 1) := by
  rw [List.drop_eq_getElem_cons h, List.getD_eq_getElem?_getD, List.getElem?_eq_getElem h]; rfl
theorem loop_scan {ws : List Wd} : ∀ {f : Nat} {ns : List Nd} {wt : List Nat} {at_ : Nat} {ns' : List Nd}, ws.length < at_ + f → WtOk ns wt → (∀ i, wt.getLast? = some i → full ns i = false) → loopM ws f ns wt at_ = some (ns', []) → ns' ≠ [] →
    scan (if ns = [] then 1 else lack ns wt) (ws.drop at_) = true := by
  intro f
  induction f with
  | zero =>
    intro ns wt at_ ns' hf ok la h hne
    rw [loopM.eq_1] at h
    injection h with h
    obtain ⟨rfl, rfl⟩ := Prod.mk.inj h
    rw [List.drop_eq_nil_of_le (by omega), if_neg hne]
    rfl
  | succ f ih =>
    intro ns wt at_ ns' hf ok la h hne
    rw [loopM.eq_2] at h
    by_cases hlt : at_ < ws.length
    · rw [if_pos hlt] at h
      cases hr : readNd ws at_ wt.getLast? (lvlOf ns wt.getLast?) with
      | none => rw [hr] at h; cases h
      | some nd =>
        rw [hr] at h
        dsimp only at h
        by_cases hc : ns ≠ [] ∧ wt.getLast? = none
        · rw [if_pos hc] at h; cases h
        · rw [if_neg hc] at h
          have h0 : wt ≠ [] ∨ ns = [] := by
            by_cases hw : wt = []
            · exact .inr (Classical.byContradiction fun z => hc ⟨z, by rw [hw]; rfl⟩)
            · exact .inl hw
          obtain ⟨hw, hk⟩ := readNd_some hr
          obtain ⟨g1, g2, g3⟩ := hang_ok ok la hw h0
          rw [hangM_snd] at h
          change loopM ws f (addIn (ns ++ [nd]) wt ns.length) _ _ = _ at h
          have hms : addIn (ns ++ [nd]) wt ns.length ≠ [] := fun z => by
            have : (addIn (ns ++ [nd]) wt ns.length).length = ns.length + 1 := by rw [addIn_len]; simp
            rw [z] at this; simp at this
          have pos : 0 < (if ns = [] then 1 else lack ns wt) := by
            split
            · decide
            · rename_i hns
              rcases h0 with h0 | h0
              · rcases List.eq_nil_or_concat wt with rfl | ⟨l, i, rfl⟩
                · exact absurd rfl h0
                · rw [List.concat_eq_append] at *
                  have h1 := la i last_app
                  have h2 := ok.le i (by simp)
                  unfold full at h1
                  have := of_decide_eq_false h1
                  unfold lack
                  rw [List.map_append, List.sum_append]
                  have : 0 < mis ns i := by unfold mis; omega
                  simp; omega
              · exact absurd h0 hns
          rw [drop_getD hlt]
          generalize (if ns = [] then 1 else lack ns wt) = k at pos g3 ⊢
          obtain ⟨k, rfl⟩ : ∃ k', k = k' + 1 := ⟨k - 1, by omega⟩
          rcases hk with ⟨a, ha, hka, hb⟩ | ⟨hn, hfw, hkn, hnm⟩
          · rw [hka] at g3
            have e3 : lack (addIn (ns ++ [nd]) wt ns.length) (popF (addIn (ns ++ [nd]) wt ns.length) (wt ++ [ns.length])) = k + a := by
              have : (some a).getD 0 = a := rfl
              omega
            unfold scan
            rw [ha]
            dsimp only
            rcases hb with ⟨hb, hlt2, hfr, hnm⟩ | ⟨hb, hnm⟩
            · rw [if_pos hb, drop_getD hlt2]
              dsimp only
              rw [if_pos hnm] at h
              have := ih (by omega) g1 g2 h hne
              rw [if_neg hms, e3] at this
              rw [hfr, this]; rfl
            · rw [if_neg (by rw [hb]; decide)]
              rw [if_neg (fun z => z hnm)] at h
              have := ih (by omega) g1 g2 h hne
              rw [if_neg hms, e3] at this
              exact this
          · rw [hkn] at g3
            have e3 : lack (addIn (ns ++ [nd]) wt ns.length) (popF (addIn (ns ++ [nd]) wt ns.length) (wt ++ [ns.length])) = k := by
              have : (none : Option Nat).getD 0 = 0 := rfl
              omega
            unfold scan
            rw [hn]
            dsimp only
            rw [if_neg (fun z => z hnm)] at h
            have := ih (by omega) g1 g2 h hne
            rw [if_neg hms, e3] at this
            rw [this]
            rcases hfw with z | z <;> rw [z] <;> simp
    · rw [if_neg hlt] at h
      injection h with h
      obtain ⟨rfl, rfl⟩ := Prod.mk.inj h
      rw [List.drop_eq_nil_of_le (by omega), if_neg hne]
      rfl
theorem scan_of_read {ws : List Wd} {st : Nat} {ns : List Nd} (h : readExpr ws st = some ns) : scan 1 (ws.drop st) = true := by
  unfold readExpr at h
  cases hl : loopM ws (ws.length + 1) [] [] st with
  | none => rw [hl] at h; cases h
  | some p =>
    obtain ⟨ns', wt'⟩ := p
    rw [hl] at h
    dsimp only at h
    split at h
    · cases h
    · rename_i hc
      have hw : wt' = [] := Classical.byContradiction fun z => hc (.inl z)
      have hn : ns' ≠ [] := fun z => hc (.inr z)
      subst hw
      have := loop_scan (by omega) ⟨(fun i hi => by cases hi), List.nodup_nil, fun i hi => by cases hi⟩ (fun i hi => by cases hi) hl hn
      rw [if_pos rfl] at this
      exact this
theorem read_no {ws : List Wd} {st : Nat} (h : scan 1 (ws.drop st) = false) : readExpr ws st = none := by
  cases hr : readExpr ws st with
  | none => rfl
  | some ns => rw [scan_of_read hr] at h; cases h
end Mi
set_option Elab.async false
set_option linter.all false
set_option maxRecDepth 100000
set_option maxHeartbeats 1000000
namespace Mi
theorem scan_n {k : Nat} {w : Wd} {r : List Wd} (h : ari w = none) : scan (k + 1) (w :: r) = ((okFree w || written w) && scan k r) := by rw [scan, h]
theorem scan_o {k a : Nat} {w : Wd} {r : List Wd} (h : ari w = some a) (hb : isBind w = false) : scan (k + 1) (w :: r) = scan (k + a) r := by
  rw [scan, h]; dsimp only; rw [if_neg (by rw [hb]; decide)]
theorem scan_b {k a : Nat} {w n : Wd} {r : List Wd} (h : ari w = some a) (hb : isBind w = true) : scan (k + 1) (w :: n :: r) = (okFree n && scan (k + a) r) := by
  rw [scan, h]; dsimp only; rw [if_pos hb]
theorem scan_b0 {k a : Nat} {w : Wd} (h : ari w = some a) (hb : isBind w = true) : scan (k + 1) [w] = false := by
  rw [scan, h]; dsimp only; rw [if_pos hb]
theorem scan_more : ∀ {n : Nat} {p q : List Wd} {k d : Nat}, p.length ≤ n → scan k p = true → scan (k + d) (p ++ q) = scan d q := by
  intro n
  induction n with
  | zero =>
    intro p q k d hn h
    have : p = [] := List.length_eq_zero_iff.1 (Nat.le_zero.1 hn)
    subst this
    cases k with
    | zero => rw [Nat.zero_add]; rfl
    | succ k => cases h
  | succ n ih =>
    intro p q k d hn h
    cases p with
    | nil =>
      cases k with
      | zero => rw [Nat.zero_add]; rfl
      | succ k => cases h
    | cons w r =>
      cases k with
      | zero => cases h
      | succ k =>
        have hl : r.length ≤ n := by simpa using hn
        rw [show k + 1 + d = (k + d) + 1 by omega]
        show scan ((k + d) + 1) (w :: (r ++ q)) = _
        cases ha : ari w with
        | none =>
          rw [scan_n ha, Bool.and_eq_true] at h
          rw [scan_n ha, h.1, Bool.true_and]
          exact ih hl h.2
        | some a =>
          cases hb : isBind w with
          | true =>
            cases r with
            | nil => rw [scan_b0 ha hb] at h; cases h
            | cons x r' =>
              rw [scan_b ha hb, Bool.and_eq_true] at h
              show scan ((k + d) + 1) (w :: x :: (r' ++ q)) = _
              rw [scan_b ha hb, h.1, Bool.true_and, show k + d + a = k + a + d by omega]
              exact ih (by simp at hl; omega) h.2
          | false =>
            rw [scan_o ha hb] at h ⊢
            rw [show k + d + a = k + a + d by omega]
            exact ih hl h
theorem scan_app {p q : List Wd} {k : Nat} (h : scan k p = true) : scan k (p ++ q) = scan 0 q := scan_more (d := 0) (Nat.le_refl _) h
/-- where an expression begins -/
theorem scan_at : ∀ {n : Nat} {pre post : List Wd} {x : Wd} {k : Nat}, pre.length ≤ n → scan k (pre ++ x :: post) = true → (∀ y, pre.getLast? = some y → isBind y = false) → ∃ m, ∀ y q, scan k (pre ++ y :: q) = scan (m + 1) (y :: q) := by
  have nil : ∀ {post : List Wd} {x : Wd} {k : Nat}, scan k (x :: post) = true → ∃ m, ∀ y q, scan k (([] : List Wd) ++ y :: q) = scan (m + 1) (y :: q) := fun {post x k} h => by
    cases k with
    | zero => cases h
    | succ k => exact ⟨k, fun _ _ => rfl⟩
  intro n
  induction n with
  | zero =>
    intro pre post x k hn h hb
    have : pre = [] := List.length_eq_zero_iff.1 (Nat.le_zero.1 hn)
    subst this
    exact nil h
  | succ n ih =>
    intro pre post x k hn h hb
    cases pre with
    | nil => exact nil h
    | cons w r =>
      cases k with
      | zero => cases h
      | succ k =>
        have hl : r.length ≤ n := by simpa using hn
        have last : ∀ {s t : List Wd}, w :: r = s ++ t → ∀ y, t.getLast? = some y → isBind y = false := fun {s t} e y hy => hb y (by
          rw [e]
          rcases List.eq_nil_or_concat t with rfl | ⟨l, i, rfl⟩
          · cases hy
          · rw [List.concat_eq_append] at hy ⊢
            rw [← List.append_assoc, List.getLast?_concat]
            rw [List.getLast?_concat] at hy
            exact hy)
        change scan (k + 1) (w :: (r ++ x :: post)) = true at h
        cases ha : ari w with
        | none =>
          rw [scan_n ha, Bool.and_eq_true] at h
          obtain ⟨m, hm⟩ := ih hl h.2 (last (s := [w]) rfl)
          refine ⟨m, fun y q => ?_⟩
          show scan (k + 1) (w :: (r ++ y :: q)) = _
          rw [scan_n ha, h.1, Bool.true_and]
          exact hm y q
        | some a =>
          cases hw : isBind w with
          | true =>
            cases r with
            | nil => exact absurd (hb w rfl) (by rw [hw]; decide)
            | cons z r' =>
              change scan (k + 1) (w :: z :: (r' ++ x :: post)) = true at h
              rw [scan_b ha hw, Bool.and_eq_true] at h
              obtain ⟨m, hm⟩ := ih (by simp at hl; omega) h.2 (last (s := [w, z]) rfl)
              refine ⟨m, fun y q => ?_⟩
              show scan (k + 1) (w :: z :: (r' ++ y :: q)) = _
              rw [scan_b ha hw, h.1, Bool.true_and]
              exact hm y q
          | false =>
            rw [scan_o ha hw] at h
            obtain ⟨m, hm⟩ := ih hl h (last (s := [w]) rfl)
            refine ⟨m, fun y q => ?_⟩
            show scan (k + 1) (w :: (r ++ y :: q)) = _
            rw [scan_o ha hw]
            exact hm y q
theorem scan_tr : ∀ {e : Tr}, e.Ok → scan 1 e.words = true := by
  have two : ∀ {a : List Wd} {k : Nat} {q : List Wd}, scan 1 a = true → scan (k + 1) (a ++ q) = scan k q := fun {a k q} h => by
    rw [Nat.add_comm]; exact scan_more (Nat.le_refl _) h
  have op : ∀ {s n : Wd} {k : Nat} {r : List Wd}, ari s = some k → bindOk s n → scan k r = true → scan 1 (s :: (nmW n ++ r)) = true := fun {s n k r} hs hn h => by
    unfold scan
    rw [hs]
    dsimp only
    by_cases hb : isBind s = true
    · rw [if_pos hb]
      obtain ⟨h1, h2⟩ := hn.1 hb
      unfold nmW
      rw [if_neg h1]
      show (okFree n && scan (0 + k) r) = true
      rw [h2, Nat.zero_add, h]; rfl
    · rw [if_neg hb]
      have : n = [] := hn.2 (by simpa using hb)
      unfold nmW
      rw [if_pos this, Nat.zero_add]
      exact h
  intro e
  induction e with
  | leaf w =>
    intro ok
    show scan 1 [w] = true
    unfold scan
    rw [ok.1]
    dsimp only
    rcases ok.2 with h | h <;> rw [h] <;> simp [scan]
  | un s n a iha => intro ok; exact op ok.1 ok.2.1 (iha ok.2.2)
  | bi s n a b iha ihb => intro ok; exact op ok.1 ok.2.1 (by rw [two (iha ok.2.2.1)]; exact ihb ok.2.2.2)
  | tri s a b c iha ihb ihc =>
    intro ok
    have := op (n := []) ok.1 ⟨fun h => absurd (ok.2.1.symm.trans h) (by decide), fun _ => rfl⟩ (r := a.words ++ (b.words ++ c.words)) (by rw [two (iha ok.2.2.1), two (ihb ok.2.2.2.1)]; exact ihc ok.2.2.2.2)
    exact this
section
variable {ws pre post : List Wd} {x y : Wd}
theorem scan_over (h : scan 1 ws = true) : scan 1 (ws ++ [y]) = false := by rw [scan_app h]; rfl
theorem scan_less (h : scan 1 ws = true) : scan 1 ws.dropLast = false := by
  rcases List.eq_nil_or_concat ws with rfl | ⟨l, i, rfl⟩
  · cases h
  · rw [List.concat_eq_append] at h ⊢
    rw [List.dropLast_concat]
    cases hl : scan 1 l with
    | false => rfl
    | true => rw [scan_over hl] at h; cases h
/-- a word that is none -/
theorem scan_bad (h : scan 1 (pre ++ x :: post) = true) (hb : ∀ y, pre.getLast? = some y → isBind y = false) (h1 : ari y = none) (h2 : okFree y = false) (h3 : written y = false) : scan 1 (pre ++ y :: post) = false := by
  obtain ⟨m, hm⟩ := scan_at (Nat.le_refl _) h hb
  rw [hm, scan, h1]
  dsimp only
  rw [h2, h3]; rfl
theorem scan_leaf {m : Nat} (h : scan (m + 1) (x :: post) = true) (hx : ari x = none) : scan m post = true := by
  rw [scan, hx] at h
  dsimp only at h
  rw [Bool.and_eq_true] at h
  exact h.2
/-- a word of two in the place of a leaf -/
theorem scan_two (h : scan 1 (pre ++ x :: post) = true) (hb : ∀ y, pre.getLast? = some y → isBind y = false) (hx : ari x = none) (h1 : ari y = some 2) (h2 : isBind y = false) : scan 1 (pre ++ y :: post) = false := by
  obtain ⟨m, hm⟩ := scan_at (Nat.le_refl _) h hb
  rw [hm] at h
  have hp := scan_leaf h hx
  rw [hm, scan, h1]
  dsimp only
  rw [if_neg (by rw [h2]; decide)]
  have := scan_more (q := []) (d := 2) (Nat.le_refl _) hp
  rw [List.append_nil] at this
  rw [this]; rfl
/-- fun in the place of a leaf -/
theorem scan_fun (h : scan 1 (pre ++ x :: post) = true) (hb : ∀ y, pre.getLast? = some y → isBind y = false) (hx : ari x = none) (h1 : ari y = some 1) (h2 : isBind y = true) : scan 1 (pre ++ y :: post) = false := by
  obtain ⟨m, hm⟩ := scan_at (Nat.le_refl _) h hb
  rw [hm] at h
  have hp := scan_leaf h hx
  rw [hm, scan, h1]
  dsimp only
  rw [if_pos h2]
  cases post with
  | nil => rfl
  | cons n r =>
    dsimp only
    cases hf : okFree n with
    | false => rfl
    | true =>
      cases m with
      | zero => cases hp
      | succ m =>
        have hr := scan_leaf hp (ari_free hf)
        have := scan_more (q := []) (d := 2) (Nat.le_refl _) hr
        rw [List.append_nil] at this
        rw [Bool.true_and]
        show scan (m + 2) r = false
        rw [this]; rfl
end
theorem split_words {W : List Wd} (h0 : W ≠ []) (h : ∀ w ∈ W, 32 ∉ w) : TL.spl [32] 0 [] (TL.joinL [32] W) = W := TL.spl_join h0 h
theorem line_none {W : List Wd} (h0 : W ≠ []) (h : ∀ w ∈ W, 32 ∉ w) (h1 : W.getD 0 [] = RUN → scan 1 (W.drop 1) = false) (h2 : W.getD 0 [] = PART → okFree (W.getD 1 []) = true → W.getD 2 [] = FUN → scan 1 (W.drop 2) = false) : readLine (TL.joinL [32] W) = none := by
  unfold readLine
  rw [split_words h0 h]
  dsimp only
  split
  · rfl
  · split
    · rename_i _ h3
      rw [read_no (h1 h3)]; rfl
    · split
      · rename_i _ _ h3
        rw [read_no (h2 h3.1 h3.2.2.1 h3.2.2.2)]; rfl
      · rfl
end Mi
set_option Elab.async false
set_option linter.all false
set_option maxRecDepth 100000
set_option maxHeartbeats 1000000
namespace Mi
def NOB : Wd := [110, 111, 98, 111, 100, 121, 55]
def Tr.lvs : Tr → List Wd
  | .leaf w => [w]
  | .un _ _ a => a.lvs
  | .bi _ _ a b => a.lvs ++ b.lvs
  | .tri _ a b c => a.lvs ++ (b.lvs ++ c.lvs)
theorem cut_app : ∀ {A B pre post : List Wd} {x : Wd}, A ++ B = pre ++ x :: post → (∃ q, A = pre ++ x :: q ∧ post = q ++ B) ∨ ∃ p, pre = A ++ p ∧ B = p ++ x :: post := by
  intro A
  induction A with
  | nil => intro B pre post x h; exact .inr ⟨pre, rfl, h⟩
  | cons a A ih =>
    intro B pre post x h
    cases pre with
    | nil =>
      injection h with h1 h2
      subst h1
      exact .inl ⟨A, rfl, h2.symm⟩
    | cons b pre =>
      injection h with h1 h2
      subst h1
      rcases ih h2 with ⟨q, h3, h4⟩ | ⟨p, h3, h4⟩
      · exact .inl ⟨q, by rw [h3]; rfl, h4⟩
      · exact .inr ⟨p, by rw [h3]; rfl, h4⟩
theorem last_of {A p : List Wd} (h : ∀ y, (A ++ p).getLast? = some y → isBind y = false) : ∀ y, p.getLast? = some y → isBind y = false := fun y hy => h y (by
  rcases List.eq_nil_or_concat p with rfl | ⟨l, i, rfl⟩
  · cases hy
  · rw [List.concat_eq_append] at hy ⊢
    rw [← List.append_assoc, List.getLast?_concat]
    rw [List.getLast?_concat] at hy
    exact hy)
structure Repl (e e' : Tr) : Prop where
  ok : e'.Ok
  dep : e'.dep = e.dep
  bnd : e'.bnd = e.bnd
  cnt : e'.cnt = e.cnt
  len : e'.words.length = e.words.length
  sc : ∀ P G, e.Sc P G → e'.Sc (NOB :: P) G
  lv : NOB ∈ e'.lvs
theorem Tr.Sc.more {P : List Wd} {x : Wd} {e : Tr} {G : List Wd} (h : e.Sc P G) : e.Sc (x :: P) G := Tr.Sc.mono (fun y hy => List.mem_cons_of_mem _ hy) (fun y hy => hy) h
theorem head_op {s n : Wd} {k : Nat} {A pre post : List Wd} {x : Wd} (hs : ari s = some k) (hn : bindOk s n) (hx : ari x = none) (h : s :: (nmW n ++ A) = pre ++ x :: post) (hb : ∀ y, pre.getLast? = some y → isBind y = false) :
    ∃ p, pre = s :: (nmW n ++ p) ∧ A = p ++ x :: post ∧ ∀ y, p.getLast? = some y → isBind y = false := by
  cases pre with
  | nil =>
    injection h with h1 h2
    rw [h1, hx] at hs; cases hs
  | cons t pre =>
    injection h with h1 h2
    subst h1
    rcases cut_app h2 with ⟨q, h3, _⟩ | ⟨p, h3, h4⟩
    · exfalso
      unfold nmW at h3
      by_cases hn0 : n = []
      · rw [if_pos hn0] at h3
        have := congrArg List.length h3
        simp at this
      · rw [if_neg hn0] at h3
        have hp : pre = [] := by
          have := congrArg List.length h3
          simp at this
          exact List.length_eq_zero_iff.1 (by omega)
        subst hp
        have hf := hb s rfl
        exact hn0 (hn.2 hf)
    · subst h3
      exact ⟨p, rfl, h4, last_of (A := s :: nmW n) hb⟩
theorem repl : ∀ {e : Tr} {pre post : List Wd} {x : Wd}, e.Ok → e.words = pre ++ x :: post → ari x = none → (∀ y, pre.getLast? = some y → isBind y = false) → ∃ e', e'.words = pre ++ NOB :: post ∧ (pre ≠ [] → e'.rs = e.rs) ∧ Repl e e' := by
  intro e
  induction e with
  | leaf w =>
    intro pre post x ok h hx hb
    have hp : pre = [] ∧ post = [] := by
      have := congrArg List.length h
      simp [Tr.words] at this
      exact ⟨List.length_eq_zero_iff.1 (by omega), List.length_eq_zero_iff.1 (by omega)⟩
    obtain ⟨rfl, rfl⟩ := hp
    refine ⟨.leaf NOB, rfl, fun z => absurd rfl z, ⟨⟨by decide, .inl (by decide)⟩, rfl, rfl, rfl, rfl, fun P G _ _ => .inr (List.mem_cons_self ..), List.mem_singleton.2 rfl⟩⟩
  | un s n a iha =>
    intro pre post x ok h hx hb
    obtain ⟨p, rfl, h2, h3⟩ := head_op ok.1 ok.2.1 hx h hb
    obtain ⟨a', w, _, R⟩ := iha ok.2.2 h2 hx h3
    refine ⟨.un s n a', by show s :: (nmW n ++ a'.words) = _; rw [w]; simp, fun _ => rfl, ⟨⟨ok.1, ok.2.1, R.ok⟩, by simp only [Tr.dep, R.dep], by simp only [Tr.bnd, R.bnd], by simp only [Tr.cnt, R.cnt], by simp only [Tr.words, List.length_cons, List.length_append, R.len], fun P G h => R.sc P _ h, R.lv⟩⟩
  | bi s n a b iha ihb =>
    intro pre post x ok h hx hb
    obtain ⟨p, rfl, h2, h3⟩ := head_op ok.1 ok.2.1 hx h hb
    rcases cut_app h2 with ⟨q, h4, h5⟩ | ⟨p2, h4, h5⟩
    · obtain ⟨a', w, _, R⟩ := iha ok.2.2.1 h4 hx h3
      refine ⟨.bi s n a' b, by show s :: (nmW n ++ (a'.words ++ b.words)) = _; rw [w, h5]; simp, fun _ => rfl, ⟨⟨ok.1, ok.2.1, R.ok, ok.2.2.2⟩, by simp only [Tr.dep, R.dep], by simp only [Tr.bnd, R.bnd], by simp only [Tr.cnt, R.cnt], by simp only [Tr.words, List.length_cons, List.length_append, R.len], fun P G h => ⟨R.sc P _ h.1, h.2.more⟩, List.mem_append_left _ R.lv⟩⟩
    · subst h4
      obtain ⟨b', w, _, R⟩ := ihb ok.2.2.2 h5 hx (last_of h3)
      refine ⟨.bi s n a b', by show s :: (nmW n ++ (a.words ++ b'.words)) = _; rw [w]; simp, fun _ => rfl, ⟨⟨ok.1, ok.2.1, ok.2.2.1, R.ok⟩, by simp only [Tr.dep, R.dep], by simp only [Tr.bnd, R.bnd], by simp only [Tr.cnt, R.cnt], by simp only [Tr.words, List.length_cons, List.length_append, R.len], fun P G h => ⟨h.1.more, R.sc P _ h.2⟩, List.mem_append_right _ R.lv⟩⟩
  | tri s a b c iha ihb ihc =>
    intro pre post x ok h hx hb
    obtain ⟨p, h1, h2, h3⟩ := head_op (n := []) ok.1 ⟨fun h => absurd (ok.2.1.symm.trans h) (by decide), fun _ => rfl⟩ hx h hb
    have h1 : pre = s :: p := h1
    subst h1
    rcases cut_app h2 with ⟨q, h4, h5⟩ | ⟨p2, h4, h5⟩
    · obtain ⟨a', w, _, R⟩ := iha ok.2.2.1 h4 hx h3
      refine ⟨.tri s a' b c, by show s :: (a'.words ++ (b.words ++ c.words)) = _; rw [w, h5]; simp, fun _ => rfl, ⟨⟨ok.1, ok.2.1, R.ok, ok.2.2.2⟩, by simp only [Tr.dep, R.dep], by simp only [Tr.bnd, R.bnd], by simp only [Tr.cnt, R.cnt], by simp only [Tr.words, List.length_cons, List.length_append, R.len], fun P G h => ⟨R.sc P _ h.1, h.2.1.more, h.2.2.more⟩, List.mem_append_left _ R.lv⟩⟩
    · subst h4
      rcases cut_app h5 with ⟨q, h6, h7⟩ | ⟨p3, h6, h7⟩
      · obtain ⟨b', w, _, R⟩ := ihb ok.2.2.2.1 h6 hx (last_of h3)
        refine ⟨.tri s a b' c, by show s :: (a.words ++ (b'.words ++ c.words)) = _; rw [w, h7]; simp, fun _ => rfl, ⟨⟨ok.1, ok.2.1, ok.2.2.1, R.ok, ok.2.2.2.2⟩, by simp only [Tr.dep, R.dep], by simp only [Tr.bnd, R.bnd], by simp only [Tr.cnt, R.cnt], by simp only [Tr.words, List.length_cons, List.length_append, R.len], fun P G h => ⟨h.1.more, R.sc P _ h.2.1, h.2.2.more⟩, List.mem_append_right _ (List.mem_append_left _ R.lv)⟩⟩
      · subst h6
        obtain ⟨c', w, _, R⟩ := ihc ok.2.2.2.2 h7 hx (last_of (last_of h3))
        refine ⟨.tri s a b c', by show s :: (a.words ++ (b.words ++ c'.words)) = _; rw [w]; simp, fun _ => rfl, ⟨⟨ok.1, ok.2.1, ok.2.2.1, ok.2.2.2.1, R.ok⟩, by simp only [Tr.dep, R.dep], by simp only [Tr.bnd, R.bnd], by simp only [Tr.cnt, R.cnt], by simp only [Tr.words, List.length_cons, List.length_append, R.len], fun P G h => ⟨h.1.more, h.2.1.more, R.sc P _ h.2.2⟩, List.mem_append_right _ (List.mem_append_right _ R.lv)⟩⟩
theorem Has.leaf_at {ms : List Nd} {w : Wd} : ∀ {e : Tr} {i p : Nat} {o : Option Nat} {l : Nat}, Has ms e i p o l → w ∈ e.lvs → ∃ j, i ≤ j ∧ j < i + e.cnt ∧ (nth ms j).sign = w ∧ (nth ms j).kind = (Tr.leaf w).kd := by
  intro e
  induction e with
  | leaf v =>
    intro i p o l h hw
    have : w = v := List.mem_singleton.1 hw
    subst this
    have h : nth ms i = (Tr.leaf w).root p o l := h
    exact ⟨i, Nat.le_refl _, by simp only [Tr.cnt]; omega, by rw [h]; rfl, by rw [h]; rfl⟩
  | un s n a iha =>
    intro i p o l h hw
    obtain ⟨j, h1, h2, h3⟩ := iha h.2 hw
    exact ⟨j, by omega, by simp only [Tr.cnt]; omega, h3⟩
  | bi s n a b iha ihb =>
    intro i p o l h hw
    rcases List.mem_append.1 hw with hw | hw
    · obtain ⟨j, h1, h2, h3⟩ := iha h.2.1 hw
      exact ⟨j, by omega, by simp only [Tr.cnt]; omega, h3⟩
    · obtain ⟨j, h1, h2, h3⟩ := ihb h.2.2 hw
      exact ⟨j, by omega, by simp only [Tr.cnt]; omega, h3⟩
  | tri s a b c iha ihb ihc =>
    intro i p o l h hw
    rcases List.mem_append.1 hw with hw | hw
    · obtain ⟨j, h1, h2, h3⟩ := iha h.2.1 hw
      exact ⟨j, by omega, by simp only [Tr.cnt]; omega, h3⟩
    · rcases List.mem_append.1 hw with hw | hw
      · obtain ⟨j, h1, h2, h3⟩ := ihb h.2.2.1 hw
        exact ⟨j, by omega, by simp only [Tr.cnt]; omega, h3⟩
      · obtain ⟨j, h1, h2, h3⟩ := ihc h.2.2.2 hw
        exact ⟨j, by omega, by simp only [Tr.cnt]; omega, h3⟩
theorem climb_named {ns : List Nd} {s : Wd} : ∀ {f b : Nat} {o : Option Nat} {a : Nat}, climb ns s f b o = some a → (nth ns a).named = s := by
  intro f
  induction f with
  | zero => intro b o a h; cases h
  | succ f ih =>
    intro b o a h
    cases o with
    | none => cases h
    | some c =>
      unfold climb at h
      split at h
      · rename_i hc
        injection h with h
        subst h
        exact hc.1
      · exact ih h
theorem read_late {ws : List Wd} {st : Nat} {e : Tr} {P : List Wd} {ns : List Nd} (ok : e.Ok) (hw : ws.drop st = e.words) (hd : e.dep ≤ 30) (sc : e.Sc P []) (hl : NOB ∈ e.lvs) (hb : NOB ∉ e.bnd) (hr : readExpr ws st = some ns) : ∃ x ∈ ns, x.kind = PART ∧ x.sign = NOB := by
  obtain ⟨ms, h1, h2, h3⟩ := readExpr_tr ok hw hd
  rw [hr] at h1
  injection h1 with h1
  subst h1
  obtain ⟨j, _, hj, hs, hk⟩ := h3.leaf_at hl
  have hj : j < e.cnt := by omega
  have hk : (nth ms j).kind = [110, 97, 109, 101] := by rw [hk]; decide
  have hlen : (bindTo e.cnt ms).length = e.cnt := bt_len.trans h2
  have hS := fun j (hj : j < e.cnt) => h3.scope ok sc (fun w hw => by cases hw) j (Nat.zero_le _) (by omega)
  have hc : climb ms (nth ms j).sign (j + 1) j (nth ms j).outer = none := by
    cases z : climb ms (nth ms j).sign (j + 1) j (nth ms j).outer with
    | none => rfl
    | some a =>
      exfalso
      have hn := climb_named z
      rw [hs] at hn
      have ha : a < e.cnt := Classical.byContradiction fun q => by
        rw [nth_over (by omega)] at hn
        exact absurd hn (by decide)
      exact hb (hn ▸ (hS a ha).2.2 (by rw [hn]; decide))
  have hB : nth (bindTo e.cnt ms) j = { nth ms j with kind := PART } := by
    rw [bt_nth, if_pos ⟨hj, hk⟩]
    unfold bindM
    rw [hc]
  refine ⟨nth (bindTo e.cnt ms) j, ?_, by rw [hB], by rw [hB]; exact hs⟩
  unfold nth
  rw [List.getD_eq_getElem?_getD, List.getElem?_eq_getElem (by omega)]
  exact List.getElem_mem _
end Mi
set_option Elab.async false
set_option linter.all false
set_option maxRecDepth 100000
set_option maxHeartbeats 1000000
namespace Mi
theorem line_run_eq {e : Tr} (ok : e.Ok) (hl : (runWs e).length ≤ 120) : readLine (runT e) = (readExpr (runWs e) 1).map fun ns => ⟨RUN, runT e, ns⟩ := by
  have hs : TL.spl [32] 0 [] (runT e) = runWs e := split_words (by simp [runWs]) fun p hp => by
    rcases List.mem_cons.1 hp with rfl | hp
    · decide
    · exact (Tr.plain ok p hp).1
  unfold readLine
  rw [hs]
  dsimp only
  rw [if_neg (by omega), if_pos (show (runWs e).getD 0 [] = RUN from rfl)]
theorem line_part_eq {nm : Wd} {e : Tr} (ok : e.Ok) (hf : e.rs = FUN) (hn : okFree nm = true) (hl : (partWs nm e).length ≤ 120) : readLine (partT (nm, e)) = (readExpr (partWs nm e) 2).map fun ns => ⟨nm, partT (nm, e), ns⟩ := by
  have hs : TL.spl [32] 0 [] (partT (nm, e)) = partWs nm e := split_words (by simp [partWs]) fun p hp => by
    rcases List.mem_cons.1 hp with rfl | hp
    · decide
    · rcases List.mem_cons.1 hp with rfl | hp
      · exact (plain_free hn).1
      · exact (Tr.plain ok p hp).1
  obtain ⟨q, hq⟩ := e.words_eq
  have hw : partWs nm e = PART :: nm :: FUN :: (nmW e.rn ++ q) := by unfold partWs; rw [hq, hf]
  unfold readLine
  rw [hs]
  dsimp only
  rw [if_neg (by omega), if_neg (show ¬ (partWs nm e).getD 0 [] = [114, 117, 110] from by rw [hw]; exact fun h => absurd (show PART = RUN from h) (by decide)), if_pos ⟨by rw [hw]; rfl, by rw [hw]; simp, by rw [hw]; exact hn, by rw [hw]; rfl⟩]
  rfl
/-- what is told of a line's names: all known among N, or one that is nobody's -/
structure LnIs (N B : List Wd) (name told : Wd) (e : Tr) (l : Ln) : Prop where
  name : l.name = name
  told : l.told = told
  bnd : ∀ x ∈ l.names, x ∈ B
  fine : e.Good N → known N l = true
  late : NOB ∈ e.lvs → known N l = false
theorem known_not {N : List Wd} {l : Ln} (hN : NOB ∉ N) (h : ∃ x ∈ l.nodes, x.kind = PART ∧ x.sign = NOB) : known N l = false := by
  obtain ⟨x, hx, hk, hs⟩ := h
  cases z : known N l with
  | false => rfl
  | true =>
    unfold known at z
    have := List.all_eq_true.1 z x hx
    rw [show decide (x.kind = [112, 97, 114, 116]) = true from decide_eq_true hk, show decide (x.sign ∈ N) = false from decide_eq_false (by rw [hs]; exact hN)] at this
    cases this
theorem is_run {N : List Wd} {e : Tr} (g : e.Good (NOB :: N)) (hl : (runWs e).length ≤ 120) (hN : NOB ∉ N) (hb : NOB ∉ e.bnd) : ∃ l, readLine (runT e) = some l ∧ LnIs N e.bnd RUN (runT e) e l := by
  obtain ⟨l, h1, h2⟩ := line_run g hl
  refine ⟨l, h1, ⟨h2.name, h2.told, h2.bnd, fun g2 => ?_, fun hv => ?_⟩⟩
  · obtain ⟨l2, h3, h4⟩ := line_run g2 hl
    rw [h1] at h3
    injection h3 with h3
    subst h3
    exact known_of h4.parts
  · have he := line_run_eq g.ok hl
    rw [show readLine (runT e) = some l from h1] at he
    cases hr : readExpr (runWs e) 1 with
    | none => rw [hr] at he; cases he
    | some ns =>
      rw [hr] at he
      injection he with he
      subst he
      exact known_not hN (read_late g.ok rfl g.dep g.sc hv hb hr)
theorem is_part {N : List Wd} {p : Pt} (g : p.2.Good (NOB :: N)) (hf : p.2.rs = FUN) (hn : okFree p.1 = true) (hl : (partWs p.1 p.2).length ≤ 120) (hN : NOB ∉ N) (hb : NOB ∉ p.2.bnd) : ∃ l, readLine (partT p) = some l ∧ LnIs N p.2.bnd p.1 (partT p) p.2 l := by
  obtain ⟨nm, e⟩ := p
  obtain ⟨l, h1, h2⟩ := line_part g hf hn hl
  refine ⟨l, h1, ⟨h2.name, h2.told, h2.bnd, fun g2 => ?_, fun hv => ?_⟩⟩
  · obtain ⟨l2, h3, h4⟩ := line_part g2 hf hn hl
    rw [h1] at h3
    injection h3 with h3
    subst h3
    exact known_of h4.parts
  · have he := line_part_eq g.ok hf hn hl
    rw [show readLine (partT (nm, e)) = some l from h1] at he
    cases hr : readExpr (partWs nm e) 2 with
    | none => rw [hr] at he; cases he
    | some ns =>
      rw [hr] at he
      injection he with he
      subst he
      exact known_not hN (read_late g.ok rfl g.dep g.sc hv hb hr)
/-- parts some of which name nobody -/
structure PtsQ (N : List Wd) (ps : List Pt) : Prop where
  few : ps.length ≤ 12
  nodup : (nmsP ps).Nodup
  free : ∀ p ∈ ps, okFree p.1 = true
  fun_ : ∀ p ∈ ps, p.2.rs = FUN
  good : ∀ p ∈ ps, p.2.Good (NOB :: N)
  len : ∀ p ∈ ps, (partWs p.1 p.2).length ≤ 120
  apart : ∀ p ∈ ps, ∀ q ∈ ps, p.1 ∉ q.2.bnd
  nob : NOB ∉ N
  nobB : ∀ p ∈ ps, NOB ∉ p.2.bnd
structure ReadQ (N : List Wd) (ps a : List Pt) (la : List Ln) : Prop where
  name : la.map (·.name) = nmsP a
  ofs : ∀ l ∈ la, ∃ p ∈ ps, ∀ x ∈ l.names, x ∈ p.2.bnd
  at_ : ∀ (i : Nat) (p : Pt), a[i]? = some p → ∃ l, la[i]? = some l ∧ LnIs N p.2.bnd p.1 (partT p) p.2 l
theorem ReadQ.len {N : List Wd} {ps a : List Pt} {la : List Ln} (h : ReadQ N ps a la) : la.length = a.length := by
  have := congrArg List.length h.name
  simpa [nmsP] using this
theorem linesQ {N : List Wd} {ps : List Pt} (ok : PtsQ N ps) : ∀ {b a : List Pt} {la : List Ln} {rest : List Wd}, ps = a ++ b → ReadQ N ps a la → ∃ ls, linesM (b.map partT ++ rest) la = linesM rest ls ∧ ReadQ N ps ps ls := by
  intro b
  induction b with
  | nil => intro a la rest e h; rw [List.append_nil] at e; subst e; exact ⟨la, rfl, h⟩
  | cons p b ih =>
    intro a la rest e h
    have hp : p ∈ ps := by rw [e]; simp
    obtain ⟨l, h1, h2⟩ := is_part (N := N) (ok.good p hp) (ok.fun_ p hp) (ok.free p hp) (ok.len p hp) ok.nob (ok.nobB p hp)
    have sub : ∀ x ∈ nmsP a, ∃ q ∈ ps, q.1 = x := fun x hx => by
      obtain ⟨q, hq, rfl⟩ := List.mem_map.1 hx; exact ⟨q, by rw [e]; exact List.mem_append_left _ hq, rfl⟩
    have st : canStand l la = true := by
      refine stand_of h.name (fun hr => ?_) ?_ ?_ (fun hm => ?_) (fun o ho hm => ?_) fun x hx hm => ?_
      · obtain ⟨q, hq, hh⟩ := sub _ hr; exact free_run (ok.free q hq) hh
      · rw [h2.name]
        have hnd := ok.nodup
        rw [e] at hnd; unfold nmsP at hnd ⊢; rw [List.map_append, List.map_cons] at hnd
        exact fun hm => (List.nodup_append.1 hnd).2.2 _ hm _ (List.mem_cons_self ..) rfl
      · rintro ⟨_, h3⟩
        have := ok.few
        rw [e] at this; simp [nmsP] at h3 this; omega
      · rw [h2.name] at hm; exact ok.apart p hp p hp (h2.bnd _ hm)
      · obtain ⟨q, hq, hh⟩ := h.ofs o ho
        rw [h2.name] at hm
        exact ok.apart p hp q hq (hh _ hm)
      · obtain ⟨q, hq, rfl⟩ := sub _ hm
        exact ok.apart q hq p hp (h2.bnd _ hx)
    have hr : ReadQ N ps (a ++ [p]) (la ++ [l]) := by
      refine ⟨?_, fun x hx => ?_, fun i q hq => ?_⟩
      · rw [List.map_append, h.name]; unfold nmsP; rw [List.map_append]; simp [h2.name]
      · rcases List.mem_append.1 hx with hx | hx
        · exact h.ofs x hx
        · rw [List.mem_singleton.1 hx]; exact ⟨p, hp, h2.bnd⟩
      · have hl := h.len
        by_cases hi : i < a.length
        · rw [List.getElem?_append_left hi] at hq
          obtain ⟨l', e1, e2⟩ := h.at_ i q hq
          exact ⟨l', by rw [List.getElem?_append_left (by omega)]; exact e1, e2⟩
        · rw [List.getElem?_append_right (by omega)] at hq
          have hi0 : i - a.length = 0 := by
            cases z : i - a.length with
            | zero => rfl
            | succ k => rw [z] at hq; cases hq
          rw [hi0] at hq
          injection hq with hq
          subst hq
          exact ⟨l, by rw [List.getElem?_append_right (by omega), hl, hi0]; rfl, h2⟩
    obtain ⟨ls, k1, k2⟩ := ih (rest := rest) (by rw [e]; simp) hr
    refine ⟨ls, ?_, k2⟩
    rw [← k1]
    show linesM (partT p :: (b.map partT ++ rest)) la = _
    rw [linesM.eq_2, show readLine (partT p) = some l from h1]
    dsimp only
    rw [if_pos st]
theorem partT_q {N : List Wd} {ps : List Pt} (ok : PtsQ N ps) : ∀ t ∈ ps.map partT, 10 ∉ t := by
  intro t ht
  obtain ⟨p, hp, rfl⟩ := List.mem_map.1 ht
  refine plain_join fun w hw => ?_
  rcases List.mem_cons.1 hw with rfl | hw
  · decide
  · rcases List.mem_cons.1 hw with rfl | hw
    · exact (plain_free (ok.free p hp)).2
    · exact (Tr.plain (ok.good p hp).ok w hw).2
theorem readQ_lines {N : List Wd} {ps : List Pt} (ok : PtsQ N ps) {rest : List Wd} (hr : ∀ t ∈ rest, 10 ∉ t) (hne : ps.map partT ++ rest ≠ []) : ∃ ls, ReadQ N ps ps ls ∧ readProg (textT (ps.map partT ++ rest)) = (match linesM rest ls with
    | .error e => .error e
    | .ok ls => if (ls.getLastD default).name ≠ RUN then .error (ls.length + 1) else match firstUnknown (ls.dropLast.map (·.name)) 1 ls with
      | some k => .error k
      | none => .ok ls) := by
  obtain ⟨ls, h1, h2⟩ := linesQ (rest := rest) ok (b := ps) (a := []) (la := []) rfl ⟨rfl, (fun l hl => by cases hl), fun i p hp => by cases hp⟩
  refine ⟨ls, h2, ?_⟩
  unfold readProg textT
  rw [TL.spl_join hne (fun p hp => by rcases List.mem_append.1 hp with hp | hp; exact partT_q ok p hp; exact hr p hp), h1]
  all_goals rfl
/-- a line that is none -/
theorem text_wrong {N : List Wd} {ps : List Pt} (ok : PtsQ N ps) {t : Wd} {rest : List Wd} (ht : ∀ x ∈ t :: rest, 10 ∉ x) (h : readLine t = none) : readProg (textT (ps.map partT ++ t :: rest)) = .error (ps.length + 1) := by
  obtain ⟨ls, h1, h2⟩ := readQ_lines ok ht (by simp)
  rw [h2, linesM.eq_2, h]
  dsimp only
  rw [h1.len]
/-- the line run is not there -/
theorem text_short {N : List Wd} {ps : List Pt} (ok : PtsQ N ps) (hne : ps ≠ []) : readProg (textT (ps.map partT)) = .error (ps.length + 1) := by
  obtain ⟨ls, h1, h2⟩ := readQ_lines ok (rest := []) (fun x hx => by cases hx) (by simp [hne])
  rw [List.append_nil] at h2
  rw [h2, linesM.eq_1]
  dsimp only
  have hl := h1.len
  have hn : (ls.getLastD default).name ≠ RUN := by
    rcases List.eq_nil_or_concat ls with rfl | ⟨l, i, rfl⟩
    · exact absurd (List.length_eq_zero_iff.1 hl.symm) hne
    · rw [List.concat_eq_append, List.getLastD_concat]
      rw [List.concat_eq_append] at h1
      have hm := h1.name
      rw [List.map_append] at hm
      have : i.name ∈ nmsP ps := by rw [← hm]; simp
      obtain ⟨q, hq, hh⟩ := List.mem_map.1 this
      exact fun z => free_run (ok.free q hq) (hh.trans z)
  rw [if_pos hn, hl]
theorem unknown_at {N : List Wd} : ∀ {ls : List Ln} {k j : Nat} {l : Ln}, (∀ i, i < j → ∀ m, ls[i]? = some m → known N m = true) → ls[j]? = some l → known N l = false → firstUnknown N k ls = some (k + j) := by
  intro ls
  induction ls with
  | nil => intro k j l _ h; cases h
  | cons m ls ih =>
    intro k j l h hj hl
    cases j with
    | zero =>
      injection hj with hj
      subst hj
      unfold firstUnknown
      rw [if_neg (by rw [hl]; decide)]
      rfl
    | succ j =>
      unfold firstUnknown
      rw [if_pos (h 0 (Nat.succ_pos _) m rfl), ih (fun i hi x hx => h (i + 1) (by omega) x hx) hj hl]
      congr 1; omega
/-- a name that is nobody's: the first line that has one -/
theorem text_late {ps : List Pt} {e : Tr} (ok : PtsQ (nmsP ps) ps) (g : e.Good (NOB :: nmsP ps)) (hl : (runWs e).length ≤ 120) (ap : ∀ p ∈ ps, p.1 ∉ e.bnd) (hb : NOB ∉ e.bnd) {j : Nat} (hj : j ≤ ps.length)
    (h1 : ∀ (i : Nat) (p : Pt), i < j → ps[i]? = some p → p.2.Good (nmsP ps)) (h2 : ∀ p, ps[j]? = some p → NOB ∈ p.2.lvs) (h3 : j = ps.length → NOB ∈ e.lvs) : readProg (textT (ps.map partT ++ [runT e])) = .error (j + 1) := by
  have hp : 10 ∉ runT e := plain_join fun w hw => by
    rcases List.mem_cons.1 hw with rfl | hw
    · decide
    · exact (Tr.plain g.ok w hw).2
  obtain ⟨ls, r1, r2⟩ := readQ_lines ok (rest := [runT e]) (fun x hx => by rw [List.mem_singleton.1 hx]; exact hp) (by simp)
  obtain ⟨l, l1, l2⟩ := is_run g hl ok.nob hb
  have hr : RUN ∉ nmsP ps := fun hm => by
    obtain ⟨q, hq, hh⟩ := List.mem_map.1 hm; exact free_run (ok.free q hq) hh
  have free : ∀ x ∈ l.names, okFree x = true := fun x hx => Tr.bnd_free g.ok x (l2.bnd x hx)
  have st : canStand l ls = true := by
    refine stand_of r1.name hr (by rw [l2.name]; exact hr) (by rw [l2.name]; exact fun h => h.1 rfl) ?_ ?_ fun x hx hm => ?_
    · rw [l2.name]; exact fun hm => free_run (free _ hm) rfl
    · intro o ho hm
      rw [l2.name] at hm
      obtain ⟨q, hq, hh⟩ := r1.ofs o ho
      exact free_run (Tr.bnd_free (ok.good q hq).ok _ (hh _ hm)) rfl
    · obtain ⟨q, hq, rfl⟩ := List.mem_map.1 hm
      exact ap q hq (l2.bnd _ hx)
  rw [r2, linesM.eq_2, l1]
  dsimp only
  rw [if_pos st, linesM.eq_1]
  dsimp only
  rw [List.getLastD_concat, if_neg (by rw [l2.name]; exact fun h => h rfl), List.dropLast_concat, r1.name]
  have hlen := r1.len
  have key : firstUnknown (nmsP ps) 1 (ls ++ [l]) = some (1 + j) := by
    have before : ∀ i, i < j → ∀ m, (ls ++ [l])[i]? = some m → known (nmsP ps) m = true := fun i hi m hm => by
      have hi2 : i < ps.length := by omega
      rw [List.getElem?_append_left (by omega)] at hm
      obtain ⟨l', e1, e2⟩ := r1.at_ i ps[i] (List.getElem?_eq_getElem hi2)
      rw [e1] at hm
      injection hm with hm
      subst hm
      exact e2.fine (h1 i ps[i] hi (List.getElem?_eq_getElem hi2))
    by_cases hjp : j < ps.length
    · obtain ⟨l', e1, e2⟩ := r1.at_ j ps[j] (List.getElem?_eq_getElem hjp)
      exact unknown_at before (by rw [List.getElem?_append_left (by omega)]; exact e1) (e2.late (h2 _ (List.getElem?_eq_getElem hjp)))
    · have hje : j = ps.length := by omega
      exact unknown_at before (by rw [List.getElem?_append_right (by omega), hlen, hje, Nat.sub_self]; rfl) (l2.late (h3 hje))
  rw [key]
  dsimp only
  rw [Nat.add_comm]
end Mi
set_option Elab.async false
set_option linter.all false
set_option maxRecDepth 100000
set_option maxHeartbeats 1000000
namespace Mi
/-- W is the line hd, e as it was (0), with a name that is nobody's (1), none (2) -/
def SpW (hd : List Wd) (e : Tr) (k : Nat) (W : List Wd) : Prop :=
  (k = 0 ∧ W = hd ++ e.words) ∨ (k = 1 ∧ ∃ e', W = hd ++ e'.words ∧ (hd.length = 2 → e'.rs = e.rs) ∧ Repl e e') ∨ (k = 2 ∧ (∀ w ∈ W, 10 ∉ w) ∧ readLine (TL.joinL [32] W) = none)
/-- the words ahead of a line's expression -/
def HdOk (hd : List Wd) (e : Tr) : Prop := hd = [RUN] ∨ ∃ nm, hd = [PART, nm] ∧ okFree nm = true ∧ e.rs = FUN
theorem line_no {hd ws : List Wd} (H : hd = [RUN] ∨ ∃ nm, hd = [PART, nm]) (pl : ∀ w ∈ hd ++ ws, 32 ∉ w) (s : scan 1 ws = false) : readLine (TL.joinL [32] (hd ++ ws)) = none := by
  refine line_none ?_ pl (fun h => ?_) fun h _ _ => ?_
  · rcases H with rfl | ⟨nm, rfl⟩ <;> simp
  · rcases H with rfl | ⟨nm, rfl⟩
    · exact s
    · exact absurd (show PART = RUN from h) (by decide)
  · rcases H with rfl | ⟨nm, rfl⟩
    · exact absurd (show RUN = PART from h) (by decide)
    · exact s
theorem HdOk.two {hd : List Wd} {e : Tr} (h : HdOk hd e) : hd = [RUN] ∨ ∃ nm, hd = [PART, nm] := h.imp id fun ⟨nm, h, _⟩ => ⟨nm, h⟩
theorem HdOk.plain {hd : List Wd} {e : Tr} (h : HdOk hd e) (ok : e.Ok) : ∀ w ∈ hd ++ e.words, Plain w := by
  intro w hw
  rcases List.mem_append.1 hw with hw | hw
  · rcases h with rfl | ⟨nm, rfl, hn, _⟩
    · rw [List.mem_singleton.1 hw]; exact ⟨by decide, by decide⟩
    · rcases List.mem_cons.1 hw with rfl | hw
      · exact ⟨by decide, by decide⟩
      · rw [List.mem_singleton.1 hw]; exact plain_free hn
  · exact Tr.plain ok w hw
def BAD : List Wd := [[49, 48, 48], [45, 49, 48, 48], [48, 48, 55], [45, 48], [43, 49], [49, 46], [67, 97, 108, 108], [120, 95, 49], [97, 98, 99, 100, 101, 102, 103, 104, 105], [], [112, 97, 114, 116], [112, 108, 117, 115], [49, 120], [102, 117, 110]]
theorem bad_words : ∀ b ∈ BAD, (Plain b) ∧ ((ari b = none ∧ okFree b = false ∧ written b = false) ∨ (ari b = some 2 ∧ isBind b = false) ∨ (ari b = some 1 ∧ isBind b = true)) := by
  unfold Plain
  decide +kernel
section
variable {hd : List Wd} {e : Tr}
theorem sp_none {ws : List Wd} (H : HdOk hd e) (pl : ∀ w ∈ hd ++ ws, Plain w) (s : scan 1 ws = false) : SpW hd e 2 (hd ++ ws) := .inr (.inr ⟨rfl, fun w hw => (pl w hw).2, line_no H.two (fun w hw => (pl w hw).1) s⟩)
/-- a word more -/
theorem sp_more {z : Wd} (H : HdOk hd e) (ok : e.Ok) (hz : Plain z) : SpW hd e 2 ((hd ++ e.words) ++ [z]) := by
  rw [List.append_assoc]
  refine sp_none H (fun w hw => ?_) (scan_over (scan_tr ok))
  rw [← List.append_assoc] at hw
  rcases List.mem_append.1 hw with hw | hw
  · exact H.plain ok w hw
  · rw [List.mem_singleton.1 hw]; exact hz
/-- a word less -/
theorem sp_less (H : HdOk hd e) (ok : e.Ok) : SpW hd e 2 ((hd ++ e.words).take ((hd ++ e.words).length - 1)) := by
  have hne : e.words ≠ [] := by obtain ⟨r, hr⟩ := e.words_eq; rw [hr]; simp
  have h : (hd ++ e.words).take ((hd ++ e.words).length - 1) = hd ++ e.words.dropLast := by
    rw [← List.dropLast_eq_take, List.dropLast_append_of_ne_nil hne]
  rw [h]
  exact sp_none H (fun w hw => H.plain ok w (by
    rcases List.mem_append.1 hw with hw | hw
    · exact List.mem_append_left _ hw
    · exact List.mem_append_right _ ((List.dropLast_sublist _).subset hw))) (scan_less (scan_tr ok))
theorem plain_nil : Plain [] := ⟨by decide, by decide⟩
/-- a blank more behind the first word -/
theorem sp_blank (H : HdOk hd e) (ok : e.Ok) : SpW hd e 2 (((hd ++ e.words).take 1 ++ [[]]) ++ (hd ++ e.words).drop 1) := by
  have pl : ∀ w ∈ ((hd ++ e.words).take 1 ++ [[]]) ++ (hd ++ e.words).drop 1, Plain w := fun w hw => by
    rcases List.mem_append.1 hw with hw | hw
    · rcases List.mem_append.1 hw with hw | hw
      · exact H.plain ok w (List.mem_of_mem_take hw)
      · rw [List.mem_singleton.1 hw]; exact plain_nil
    · exact H.plain ok w (List.mem_of_mem_drop hw)
  refine .inr (.inr ⟨rfl, fun w hw => (pl w hw).2, ?_⟩)
  have hne : e.words ≠ [] := by obtain ⟨r, hr⟩ := e.words_eq; rw [hr]; simp
  rcases H with rfl | ⟨nm, rfl, hn, _⟩
  · refine line_no (hd := [RUN]) (ws := [] :: e.words) (.inl rfl) (fun w hw => (pl w hw).1) ?_
    rw [scan_n (by decide)]; rfl
  · refine line_no (hd := [PART, []]) (ws := nm :: e.words) (.inr ⟨[], rfl⟩) (fun w hw => (pl w hw).1) ?_
    rw [scan_n (ari_free hn)]
    cases z : e.words with
    | nil => exact absurd z hne
    | cons a r => show (_ && false) = false; rw [Bool.and_false]
/-- a blank ahead -/
theorem sp_ahead (H : HdOk hd e) (ok : e.Ok) : SpW hd e 2 ([[]] ++ (hd ++ e.words)) := by
  have pl : ∀ w ∈ [[]] ++ (hd ++ e.words), Plain w := fun w hw => by
    rcases List.mem_append.1 hw with hw | hw
    · rw [List.mem_singleton.1 hw]; exact plain_nil
    · exact H.plain ok w hw
  exact .inr (.inr ⟨rfl, fun w hw => (pl w hw).2, line_none (by simp) (fun w hw => (pl w hw).1) (fun h => absurd (show [] = RUN from h) (by decide)) fun h _ _ => absurd (show [] = PART from h) (by decide)⟩)
/-- where a leaf stands -/
theorem leaf_cut {at_ : Nat} {x : Wd} (h1 : hd.length ≤ at_) (hx : (hd ++ e.words)[at_]? = some x) : ∃ pre post, e.words = pre ++ x :: post ∧ pre.length = at_ - hd.length ∧ (hd ++ e.words).take at_ = hd ++ pre ∧ (hd ++ e.words).drop (at_ + 1) = post ∧ ∀ y, pre.getLast? = some y → (hd ++ e.words)[at_ - 1]? = some y := by
  rw [List.getElem?_append_right h1] at hx
  obtain ⟨hlt, hx2⟩ := List.getElem?_eq_some_iff.1 hx
  have hw : e.words = e.words.take (at_ - hd.length) ++ x :: e.words.drop (at_ - hd.length + 1) := by
    rw [← hx2, ← List.drop_eq_getElem_cons hlt, List.take_append_drop]
  refine ⟨e.words.take (at_ - hd.length), e.words.drop (at_ - hd.length + 1), hw, by rw [List.length_take]; omega, ?_, ?_, fun y hy => ?_⟩
  · rw [List.take_append, List.take_of_length_le h1]
  · rw [List.drop_append, List.drop_eq_nil_of_le (by omega), List.nil_append]; congr 1; omega
  · have hl : (e.words.take (at_ - hd.length)).length = at_ - hd.length := by rw [List.length_take]; omega
    have hne : 0 < at_ - hd.length := by
      cases z : at_ - hd.length with
      | zero => rw [z] at hy; cases hy
      | succ n => omega
    rw [List.getLast?_eq_getElem?, hl, List.getElem?_take] at hy
    rw [if_pos (by omega)] at hy
    rw [List.getElem?_append_right (by omega), ← hy]
    congr 1; omega
/-- another word in the place of a leaf -/
theorem sp_word {at_ : Nat} {x b : Wd} (H : HdOk hd e) (ok : e.Ok) (h1 : hd.length ≤ at_) (hx : (hd ++ e.words)[at_]? = some x) (ha : ari x = none) (hb : ∀ y, (hd ++ e.words)[at_ - 1]? = some y → isBind y = false) (hbad : b ∈ BAD) :
    SpW hd e 2 (((hd ++ e.words).take at_ ++ [b]) ++ (hd ++ e.words).drop (at_ + 1)) := by
  obtain ⟨pre, post, e1, e2, e3, e4, e5⟩ := leaf_cut h1 hx
  obtain ⟨hp, hc⟩ := bad_words b hbad
  rw [e3, e4]
  have hl : ∀ y, pre.getLast? = some y → isBind y = false := fun y hy => hb y (e5 y hy)
  have sc := scan_tr ok
  rw [e1] at sc
  have hs : scan 1 (pre ++ b :: post) = false := by
    rcases hc with ⟨c1, c2, c3⟩ | ⟨c1, c2⟩ | ⟨c1, c2⟩
    · exact scan_bad sc hl c1 c2 c3
    · exact scan_two sc hl ha c1 c2
    · exact scan_fun sc hl ha c1 c2
  have hw : (hd ++ pre ++ [b]) ++ post = hd ++ (pre ++ b :: post) := by simp
  rw [hw]
  refine sp_none H (fun w hw => ?_) hs
  have all := H.plain ok
  rw [e1] at all
  rcases List.mem_append.1 hw with hw | hw
  · exact all w (List.mem_append_left _ hw)
  · rcases List.mem_append.1 hw with hw | hw
    · exact all w (List.mem_append_right _ (List.mem_append_left _ hw))
    · rcases List.mem_cons.1 hw with rfl | hw
      · exact hp
      · exact all w (List.mem_append_right _ (List.mem_append_right _ (List.mem_cons_of_mem _ hw)))
/-- nobody's name in the place of a leaf -/
theorem sp_nob {at_ : Nat} {x : Wd} (ok : e.Ok) (h1 : hd.length ≤ at_) (h2 : hd.length = 2 → hd.length < at_) (hx : (hd ++ e.words)[at_]? = some x) (ha : ari x = none) (hb : ∀ y, (hd ++ e.words)[at_ - 1]? = some y → isBind y = false) :
    SpW hd e 1 (((hd ++ e.words).take at_ ++ [NOB]) ++ (hd ++ e.words).drop (at_ + 1)) := by
  obtain ⟨pre, post, e1, e2, e3, e4, e5⟩ := leaf_cut h1 hx
  obtain ⟨e', w, hr, R⟩ := repl ok e1 ha fun y hy => hb y (e5 y hy)
  refine .inr (.inl ⟨rfl, e', by rw [e3, e4, w]; simp, fun z => hr fun q => ?_, R⟩)
  have := h2 z
  rw [q] at e2
  simp at e2
  omega
end
structure SpAll (ps : List Pt) (e : Tr) (M : List (List Wd)) (kd : Nat → Nat) : Prop where
  len : M.length = ps.length + 1
  part : ∀ (i : Nat) (p : Pt), ps[i]? = some p → ∃ W, M[i]? = some W ∧ SpW [PART, p.1] p.2 (kd i) W
  run : ∃ W, M[ps.length]? = some W ∧ SpW [RUN] e (kd ps.length) W
section
variable {ps : List Pt} {e : Tr} {M : List (List Wd)} {kd : Nat → Nat}
theorem sp_front (ok : PtsOk ps) (sp : SpAll ps e M kd) : ∀ {j : Nat}, j ≤ ps.length → (∀ i, i < j → kd i ≠ 2) → ∃ ps' : List Pt, ps'.length = j ∧ M.take j = ps'.map partW ∧ ∀ (i : Nat) (p' : Pt), ps'[i]? = some p' → ∃ p, ps[i]? = some p ∧ p'.1 = p.1 ∧ ((kd i = 0 ∧ p' = p) ∨ (kd i = 1 ∧ p'.2.rs = p.2.rs ∧ Repl p.2 p'.2)) := by
  intro j
  induction j with
  | zero => intro _ _; exact ⟨[], rfl, rfl, fun i p h => by cases h⟩
  | succ j ih =>
    intro hj hk
    obtain ⟨ps', h1, h2, h3⟩ := ih (by omega) fun i hi => hk i (by omega)
    have hlt : j < ps.length := by omega
    obtain ⟨W, hW, hS⟩ := sp.part j ps[j] (List.getElem?_eq_getElem hlt)
    have key : ∃ p' : Pt, W = partW p' ∧ p'.1 = ps[j].1 ∧ ((kd j = 0 ∧ p' = ps[j]) ∨ (kd j = 1 ∧ p'.2.rs = ps[j].2.rs ∧ Repl ps[j].2 p'.2)) := by
      rcases hS with ⟨k0, w⟩ | ⟨k1, e', w, hr, R⟩ | ⟨k2, _⟩
      · exact ⟨ps[j], w, rfl, .inl ⟨k0, rfl⟩⟩
      · exact ⟨(ps[j].1, e'), w, rfl, .inr ⟨k1, hr rfl, R⟩⟩
      · exact absurd k2 (hk j (Nat.lt_succ_self j))
    obtain ⟨p', hw, hn, hc⟩ := key
    refine ⟨ps' ++ [p'], by simp [h1], ?_, fun i q hq => ?_⟩
    · rw [List.take_add_one, hW, h2, hw]; simp
    · by_cases hi : i < j
      · rw [List.getElem?_append_left (by omega)] at hq
        exact h3 i q hq
      · rw [List.getElem?_append_right (by omega)] at hq
        have hi0 : i - ps'.length = 0 := by
          cases z : i - ps'.length with
          | zero => rfl
          | succ m => rw [z] at hq; cases hq
        rw [hi0] at hq
        injection hq with hq
        subst hq
        have : i = j := by omega
        subst this
        exact ⟨ps[i], List.getElem?_eq_getElem hlt, hn, hc⟩
theorem nob_not : NOB ∉ NMS4 ∧ NOB ∉ BNS := by decide
theorem ptsQ_of (ok : PtsOk ps) (bn : Bns ps e) {ps' : List Pt} {N : List Wd} (hN : N = nmsP ps) (hl : ps'.length ≤ ps.length) (h : ∀ (i : Nat) (p' : Pt), ps'[i]? = some p' → ∃ p, ps[i]? = some p ∧ p'.1 = p.1 ∧ ((kd i = 0 ∧ p' = p) ∨ (kd i = 1 ∧ p'.2.rs = p.2.rs ∧ Repl p.2 p'.2))) : nmsP ps' = (nmsP ps).take ps'.length ∧ PtsQ N ps' := by
  have hnm : nmsP ps' = (nmsP ps).take ps'.length := by
    refine List.ext_getElem? fun i => ?_
    by_cases hi : i < ps'.length
    · obtain ⟨p, h1, h2, _⟩ := h i ps'[i] (List.getElem?_eq_getElem hi)
      unfold nmsP
      rw [List.getElem?_map, List.getElem?_eq_getElem hi, List.getElem?_take, if_pos hi, List.getElem?_map, h1]
      show some ps'[i].1 = some p.1
      rw [h2]
    · rw [List.getElem?_eq_none (by unfold nmsP; rw [List.length_map]; omega), List.getElem?_eq_none (by rw [List.length_take]; omega)]
  have mem : ∀ p' ∈ ps', ∃ p ∈ ps, p'.1 = p.1 ∧ p'.2.rs = p.2.rs ∧ p'.2.bnd = p.2.bnd ∧ p'.2.Good (NOB :: nmsP ps) ∧ p'.2.words.length = p.2.words.length := fun p' hp' => by
    obtain ⟨i, hi, rfl⟩ := List.getElem_of_mem hp'
    obtain ⟨p, h1, h2, h3⟩ := h i ps'[i] (List.getElem?_eq_getElem hi)
    have hp : p ∈ ps := List.mem_of_getElem? h1
    have g := ok.good p hp
    rcases h3 with ⟨_, h3⟩ | ⟨_, h3, R⟩
    · rw [h3]; exact ⟨p, hp, rfl, rfl, rfl, ⟨g.ok, g.dep, g.sc.more⟩, rfl⟩
    · exact ⟨p, hp, h2, h3, R.bnd, ⟨R.ok, by rw [R.dep]; exact g.dep, R.sc _ _ g.sc⟩, R.len⟩
  refine ⟨hnm, ⟨by have := ok.few; omega, by rw [hnm]; exact List.Nodup.sublist (List.take_sublist ..) ok.nodup, fun p' hp' => ?_, fun p' hp' => ?_, fun p' hp' => ?_, fun p' hp' => ?_, fun p' hp' q' hq' => ?_, ?_, fun p' hp' => ?_⟩⟩
  · obtain ⟨p, hp, a, _⟩ := mem p' hp'; rw [a]; exact ok.free p hp
  · obtain ⟨p, hp, _, a, _⟩ := mem p' hp'; rw [a]; exact ok.fun_ p hp
  · obtain ⟨p, hp, _, _, _, a, _⟩ := mem p' hp'; rw [hN]; exact a
  · obtain ⟨p, hp, _, _, _, _, a⟩ := mem p' hp'
    have := ok.len p hp
    unfold partWs at this ⊢
    simp only [List.length_cons] at this ⊢
    omega
  · obtain ⟨p, hp, a, _⟩ := mem p' hp'
    obtain ⟨q, hq, _, _, b, _⟩ := mem q' hq'
    rw [a, b]; exact ok.apart p hp q hq
  · rw [hN]; exact fun hm => nob_not.1 (bn.nm _ hm)
  · obtain ⟨p, hp, _, _, b, _⟩ := mem p' hp'
    rw [b]; exact fun hm => nob_not.2 (bn.bp p hp _ hm)
theorem sp_plain (ok : PtsOk ps) (or : RunOk ps e) (sp : SpAll ps e M kd) : ∀ W ∈ M, 10 ∉ TL.joinL [32] W := by
  have line : ∀ {hd : List Wd} {t : Tr} {k : Nat} {W : List Wd}, SpW hd t k W → (∀ w ∈ hd, 10 ∉ w) → t.Ok → 10 ∉ TL.joinL [32] W := fun {hd t k W} h hh ht => plain_join fun w hw => by
    rcases h with ⟨_, rfl⟩ | ⟨_, e', rfl, _, R⟩ | ⟨_, h, _⟩
    · rcases List.mem_append.1 hw with hw | hw
      · exact hh w hw
      · exact (Tr.plain ht w hw).2
    · rcases List.mem_append.1 hw with hw | hw
      · exact hh w hw
      · exact (Tr.plain R.ok w hw).2
    · exact h w hw
  intro W hW
  obtain ⟨i, hi, rfl⟩ := List.getElem_of_mem hW
  have hl := sp.len
  by_cases hp : i < ps.length
  · obtain ⟨W', h1, h2⟩ := sp.part i ps[i] (List.getElem?_eq_getElem hp)
    rw [List.getElem?_eq_getElem hi] at h1
    injection h1 with h1
    rw [h1]
    have hm : ps[i] ∈ ps := List.getElem_mem hp
    refine line h2 (fun w hw => ?_) (ok.good _ hm).ok
    rcases List.mem_cons.1 hw with rfl | hw
    · decide
    · rw [List.mem_singleton.1 hw]; exact (plain_free (ok.free _ hm)).2
  · obtain ⟨W', h1, h2⟩ := sp.run
    have : i = ps.length := by omega
    subst this
    rw [List.getElem?_eq_getElem hi] at h1
    injection h1 with h1
    rw [h1]
    exact line h2 (fun w hw => by rw [List.mem_singleton.1 hw]; decide) or.good.ok
theorem parts_lines {ps' : List Pt} : (ps'.map partW).map (TL.joinL [32]) = ps'.map partT := by rw [List.map_map]; rfl
/-- the first line that is none -/
theorem sp_wrong (ok : PtsOk ps) (or : RunOk ps e) (bn : Bns ps e) (sp : SpAll ps e M kd) {j : Nat} (hj : j ≤ ps.length) (h2 : kd j = 2) (hb : ∀ i, i < j → kd i ≠ 2) : readProg (textT (M.map (TL.joinL [32]))) = .error (j + 1) := by
  obtain ⟨ps', h3, h4, h5⟩ := sp_front ok sp hj hb
  obtain ⟨_, Q⟩ := ptsQ_of (e := e) ok bn rfl (by omega) h5
  have hlt : j < M.length := by have := sp.len; omega
  have hM : M = ps'.map partW ++ M[j] :: M.drop (j + 1) := by rw [← h4, ← List.drop_eq_getElem_cons hlt, List.take_append_drop]
  have hno : readLine (TL.joinL [32] M[j]) = none := by
    have take : ∀ {hd : List Wd} {t : Tr} {W : List Wd}, SpW hd t (kd j) W → M[j]? = some W → readLine (TL.joinL [32] M[j]) = none := fun {hd t W} h hW => by
      rw [List.getElem?_eq_getElem hlt] at hW
      injection hW with hW
      rw [hW]
      rcases h with ⟨k, _⟩ | ⟨k, _⟩ | ⟨_, _, h⟩
      · rw [h2] at k; cases k
      · rw [h2] at k; cases k
      · exact h
    by_cases hp : j < ps.length
    · obtain ⟨W, h6, h7⟩ := sp.part j ps[j] (List.getElem?_eq_getElem hp)
      exact take h7 h6
    · obtain ⟨W, h6, h7⟩ := sp.run
      have : j = ps.length := by omega
      rw [← this] at h6 h7
      exact take h7 h6
  have hpl := sp_plain ok or sp
  generalize M[j] = Wj at hM hno
  generalize M.drop (j + 1) = rest at hM
  subst h3
  rw [hM, List.map_append, parts_lines, List.map_cons]
  refine text_wrong Q (fun x hx => ?_) hno
  rw [← List.map_cons] at hx
  obtain ⟨W, hW, rfl⟩ := List.mem_map.1 hx
  exact hpl W (by rw [hM]; exact List.mem_append_right _ hW)
/-- the first line with a name that is nobody's -/
theorem sp_late (ok : PtsOk ps) (or : RunOk ps e) (bn : Bns ps e) (sp : SpAll ps e M kd) {j : Nat} (hj : j ≤ ps.length) (h1 : kd j = 1) (hb : ∀ i, i < j → kd i = 0) (hn : ∀ i, i ≤ ps.length → kd i ≠ 2) : readProg (textT (M.map (TL.joinL [32]))) = .error (j + 1) := by
  obtain ⟨ps', h3, h4, h5⟩ := sp_front ok sp (Nat.le_refl _) fun i hi => hn i (by omega)
  obtain ⟨hnm, Q⟩ := ptsQ_of (e := e) ok bn rfl (by omega) h5
  have hnm : nmsP ps' = nmsP ps := by rw [hnm, h3]; exact List.take_of_length_le (by unfold nmsP; simp)
  rw [← hnm] at Q
  obtain ⟨W, hW, hS⟩ := sp.run
  have hlt : ps.length < M.length := by have := sp.len; omega
  have hM : M = ps'.map partW ++ [W] := by
    rw [← h4]
    have h6 : M.drop ps.length = [W] := by
      rw [List.drop_eq_getElem_cons hlt, List.drop_eq_nil_of_le (by have := sp.len; omega)]
      rw [List.getElem?_eq_getElem hlt] at hW
      injection hW with hW
      rw [hW]
    rw [← h6, List.take_append_drop]
  have key : ∃ e', W = runWs e' ∧ e'.Good (NOB :: nmsP ps) ∧ e'.bnd = e.bnd ∧ e'.words.length = e.words.length ∧ (kd ps.length = 1 → NOB ∈ e'.lvs) := by
    have g := or.good
    rcases hS with ⟨k0, w⟩ | ⟨k1, e', w, _, R⟩ | ⟨k2, _⟩
    · exact ⟨e, w, ⟨g.ok, g.dep, g.sc.more⟩, rfl, rfl, fun z => by rw [k0] at z; cases z⟩
    · exact ⟨e', w, ⟨R.ok, by rw [R.dep]; exact g.dep, R.sc _ _ g.sc⟩, R.bnd, R.len, fun _ => R.lv⟩
    · exact absurd k2 (hn _ (Nat.le_refl _))
  obtain ⟨e', hw, g, b, l, lv⟩ := key
  rw [hM, hw, List.map_append, parts_lines]
  have mem : ∀ p' ∈ ps', ∃ p ∈ ps, p'.1 = p.1 := fun p' hp' => by
    obtain ⟨i, hi, rfl⟩ := List.getElem_of_mem hp'
    obtain ⟨p, a1, a2, _⟩ := h5 i ps'[i] (List.getElem?_eq_getElem hi)
    exact ⟨p, List.mem_of_getElem? a1, a2⟩
  refine text_late (j := j) Q (by rw [hnm]; exact g) ?_ (fun p' hp' => ?_) (by rw [b]; exact fun hm => nob_not.2 (bn.br _ hm)) (by omega) (fun i p' hi hp' => ?_) (fun p' hp' => ?_) fun z => ?_
  · have := or.len
    unfold runWs at this ⊢
    simp only [List.length_cons] at this ⊢
    omega
  · obtain ⟨p, hp, a⟩ := mem p' hp'
    rw [a, b]; exact or.apart p hp
  · obtain ⟨p, a1, a2, a3⟩ := h5 i p' hp'
    rcases a3 with ⟨_, a3⟩ | ⟨a3, _⟩
    · rw [a3, hnm]; exact ok.good p (List.mem_of_getElem? a1)
    · rw [hb i hi] at a3; cases a3
  · obtain ⟨p, a1, a2, a3⟩ := h5 j p' hp'
    rcases a3 with ⟨a3, _⟩ | ⟨_, _, R⟩
    · rw [h1] at a3; cases a3
    · exact R.lv
  · rw [h3] at z
    exact lv (by rw [← z]; exact h1)
/-- without the line run -/
theorem sp_short (ok : PtsOk ps) (bn : Bns ps e) : readProg (textT (ps.map partT)) = .error (max 1 ps.length + (if ps = [] then 0 else 1)) := by
  by_cases h : ps = []
  · subst h; rfl
  · obtain ⟨_, Q⟩ := ptsQ_of (kd := fun _ => 0) (e := e) (ps' := ps) ok bn rfl (Nat.le_refl _) fun i p hp => ⟨p, hp, rfl, .inl ⟨rfl, rfl⟩⟩
    rw [text_short Q h, if_neg h]
    have : 0 < ps.length := List.length_pos_iff.2 h
    congr 1; omega
end
end Mi
set_option Elab.async false
set_option linter.all false
set_option maxRecDepth 100000
set_option maxHeartbeats 1000000
namespace Mi
/-- the last word is a leaf -/
theorem Tr.last : ∀ {e : Tr}, e.Ok → ∃ pre x, e.words = pre ++ [x] ∧ ari x = none ∧ ∀ y, pre.getLast? = some y → isBind y = false := by
  have op : ∀ {s n : Wd} {k : Nat} {pre : List Wd}, ari s = some k → bindOk s n → (∀ y, pre.getLast? = some y → isBind y = false) → ∀ y, (s :: (nmW n ++ pre)).getLast? = some y → isBind y = false := by
    intro s n k pre hs hn h y hy
    rcases List.eq_nil_or_concat pre with rfl | ⟨l, i, rfl⟩
    · rw [List.append_nil] at hy
      unfold nmW at hy
      by_cases z : n = []
      · rw [if_pos z] at hy
        have : s = y := by simpa using hy
        rw [← this]
        cases hb : isBind s with
        | false => rfl
        | true => exact absurd z (hn.1 hb).1
      · rw [if_neg z] at hy
        have : n = y := by simpa using hy
        rw [← this]
        have hb : isBind s = true := Classical.byContradiction fun q => z (hn.2 (by simpa using q))
        exact isBind_ari (ari_free (hn.1 hb).2)
    · rw [List.concat_eq_append] at h hy
      have : i = y := by
        rw [show s :: (nmW n ++ (l ++ [i])) = (s :: (nmW n ++ l)) ++ [i] by simp, List.getLast?_concat] at hy
        exact Option.some.inj hy
      rw [← this]
      exact h i List.getLast?_concat
  have app : ∀ {a pre : List Wd}, (∀ y, a.getLast? = some y → isBind y = false) → (∀ y, pre.getLast? = some y → isBind y = false) → ∀ y, (a ++ pre).getLast? = some y → isBind y = false := by
    intro a pre ha h y hy
    rcases List.eq_nil_or_concat pre with rfl | ⟨l, i, rfl⟩
    · rw [List.append_nil] at hy; exact ha y hy
    · rw [List.concat_eq_append] at h hy
      rw [← List.append_assoc, List.getLast?_concat] at hy
      exact h y (by rw [List.getLast?_concat]; exact hy)
  have whole : ∀ {a pre : List Wd} {x : Wd}, a = pre ++ [x] → ari x = none → ∀ y, a.getLast? = some y → isBind y = false := by
    intro a pre x e hx y hy
    rw [e, List.getLast?_concat] at hy
    injection hy with hy
    rw [← hy]; exact isBind_ari hx
  intro e
  induction e with
  | leaf w => intro ok; exact ⟨[], w, rfl, ok.1, fun y hy => by cases hy⟩
  | un s n a iha =>
    intro ok
    obtain ⟨pre, x, h1, h2, h3⟩ := iha ok.2.2
    exact ⟨s :: (nmW n ++ pre), x, by show s :: (nmW n ++ a.words) = _; rw [h1]; simp, h2, op ok.1 ok.2.1 h3⟩
  | bi s n a b iha ihb =>
    intro ok
    obtain ⟨pa, xa, a1, a2, a3⟩ := iha ok.2.2.1
    obtain ⟨pre, x, h1, h2, h3⟩ := ihb ok.2.2.2
    exact ⟨s :: (nmW n ++ (a.words ++ pre)), x, by show s :: (nmW n ++ (a.words ++ b.words)) = _; rw [h1]; simp, h2, op ok.1 ok.2.1 (app (whole a1 a2) h3)⟩
  | tri s a b c iha ihb ihc =>
    intro ok
    obtain ⟨pb, xb, b1, b2, b3⟩ := ihb ok.2.2.2.1
    obtain ⟨pre, x, h1, h2, h3⟩ := ihc ok.2.2.2.2
    obtain ⟨pa, xa, a1, a2, a3⟩ := iha ok.2.2.1
    have := op (n := []) ok.1 ⟨fun h => absurd (ok.2.1.symm.trans h) (by decide), fun _ => rfl⟩ (app (whole a1 a2) (app (whole b1 b2) h3))
    exact ⟨s :: (a.words ++ (b.words ++ pre)), x, by show s :: (a.words ++ (b.words ++ c.words)) = _; rw [h1]; simp, h2, this⟩
end Mi
set_option Elab.async false
set_option linter.all false
set_option maxRecDepth 100000
set_option maxHeartbeats 4000000
namespace Xt
open PySem PySem.Spec PyProof.Rows L2
def mergeT (kvs more : List (List Key × V)) : List (List Key × V) := more.foldl (fun acc kv => putK acc kv.1 kv.2) kvs
theorem kt_merge {H : Hp} : ∀ {more : List (List Key × V)} {rs : List (List Key × Addr × Value)} {kvs : List (List Key × V)} {xs : List (List Key × Addr × Value)}, KT H more rs → KT H kvs xs → KT H (mergeT kvs more) (storedAllH xs rs) := by
  intro more rs kvs xs r
  unfold KT at r
  induction r generalizing kvs xs with
  | nil => intro q; exact q
  | @cons p q ps qs h t ih =>
    intro r0
    obtain ⟨h1, h2, h3⟩ := h
    have e : KT H (putK kvs p.1 p.2) (storedH xs q.1 q.2.1 q.2.2) := by
      have z := KT.put r0 p.1 h2 h3
      rw [h1] at z ⊢
      exact z
    exact ih e
theorem mergeT_len : ∀ (more kvs : List (List Key × V)), (mergeT kvs more).length ≤ kvs.length + more.length
  | [], kvs => Nat.le_refl _
  | p :: r, kvs => by
    have h1 := mergeT_len r (putK kvs p.1 p.2)
    have h2 := length_putK kvs p.1 p.2
    have e : mergeT kvs (p :: r) = mergeT (putK kvs p.1 p.2) r := rfl
    rw [e, List.length_cons]
    omega
section
variable {X : Cx}
/-- d.update(e), both with tuple keys -/
def rUpd : V → List V → Hp → VK → Prop := fun x vs H Q => ∃ (d o : Addr) (kvs more : List (List Key × V)), x = .ref d ∧ vs = [.ref o] ∧ d ≠ o ∧ H d = some (.dT kvs) ∧ H o = some (.dT more) ∧ kvs ≠ [] ∧ kvs.length + more.length ≤ sizeLine ∧ Q .non (upd H d (.dT (mergeT kvs more)))
theorem mt_update (hu : X.A.units + 1 < cLine) : MtR X "dict.update" rUpd := by
  intro pins s σ H x vs v us Q I rx rv h
  obtain ⟨d, o, kvs, more, rfl, rfl, hne, hd, ho, hk, hz, q⟩ := h
  obtain rfl : v = Value.ref d := rx
  obtain ⟨u, rfl, ru⟩ := rv.one
  obtain rfl : u = Value.ref o := ru
  obtain ⟨z, hsd, xs, rel, dd⟩ := dt_of I.hok hd
  obtain ⟨z2, hso, ys, rel2, dd2⟩ := dt_of I.hok ho
  refine call_update_dictH (tupleKind_room_in1 hu) hne hso dd dd2 (.inl fun e => ?_) (by rw [← Paired.length rel, ← Paired.length rel2]; exact hz) fun h' dd' _ hs => ?_
  · subst e
    have := Paired.length rel
    exact hk (List.length_eq_zero_iff.mp this)
  · obtain ⟨q0, es, ep, hq, h2, h3, h4, _, h5⟩ := dd'
    refine ⟨.non, _, d_write (ob := .dT (mergeT kvs more)) (t' := s.toks) I (by rw [hd]; exact True.intro) hs ⟨q0, hq⟩ ⟨Nat.le_trans (mergeT_len more kvs) hz, hsd, _, (kt_merge rel2 rel).keeps fun c ys ec => ?_, q0, es, ep, hq, h2, h3, h4, h5⟩, rfl, q⟩
    rw [upd_ne (ne_of ec hd (fun z => nomatch z))]
    exact ec
/-- the written pairs: their keys are tuples that stand -/
abbrev TKeys (H : Hp) : List (V × V) → List (List Key × V) → Prop := Paired fun x kv => (∃ b : Addr, x.1 = .ref b ∧ H b = some (.tup (kv.1.map kV))) ∧ x.2 = kv.2
def tDispT (trs : List (TE × TE)) : TE := fun σ H Q => ∀ p, H p = none → tPairs trs σ (upd H p (.dT [])) fun ps H2 => H2 p = some (.dT []) ∧ ∃ kvs : List (List Key × V), TKeys H2 ps kvs ∧ kvs.length ≤ 15 ∧ Q (.ref p) (upd H2 p (.dT (mergeT [] kvs)))
theorem carries_t {P : Program} {w : World} {H : Hp} {h : Heap} (ok : HOk P w H h) : ∀ {ps : List (V × V)} {kvs : List (List Key × V)} {ws : List (Value × Value)}, TKeys H ps kvs → VV ps ws → ∃ rs, CarriesH (tupleKind (mixKind P w)) h ws rs ∧ KT H kvs rs := by
  intro ps kvs ws r
  unfold TKeys at r
  induction r generalizing ws with
  | nil =>
    intro v
    cases v
    exact ⟨[], trivial, .nil⟩
  | @cons p q ps qs hd t ih =>
    intro v
    cases v with
    | @cons a b as bs h1 h2 =>
      obtain ⟨rs, c, k⟩ := ih h2
      obtain ⟨⟨ad, e1, e2⟩, e3⟩ := hd
      obtain ⟨b1, b2⟩ := b
      obtain ⟨r1, r2⟩ := h1
      rw [e1] at r1
      rw [e3] at r2
      obtain rfl : b1 = Value.ref ad := r1
      exact ⟨(q.1, ad, b2) :: rs, ⟨rfl, rfl, key_of ok e2, c⟩, .cons ⟨rfl, e2, r2⟩ k⟩
theorem pe_dispT {pos : Pos} {keys : List (Option Expr)} {values : List Expr} {trs : List (TE × TE)} (hu : X.A.units < cLine) (h : PPs X pos keys values trs) (hall : keys.all (·.isSome) = true) (hl : keys.length = values.length)
    (h0 : pairTrees keys values X.env pos ≠ []) (h15 : (pairTrees keys values X.env pos).length ≤ 15) : PE X (.Dict keys values pos) (tDispT trs) := by
  refine ⟨fun pins s σ H Q I q => ?_⟩
  have J := I.laid (a := s.heap.objs.size) (o := .dT []) (h' := s.heap.push { cls := .type "dict", data := .dict #[] }) (t' := s.toks) (fun b u e => Heap.get?_push_of_some _ e) (Nat.le_refl _) (dt_empty s.heap I.big)
  rw [arm_eval_Dict, zip_pairTrees keys values X.env pos hall hl, dictDisplay_pairs _ h0 (by omega)]
  have run := h.run pins _ σ _ _ J (q _ (I.hok.fresh (Nat.le_refl s.heap.objs.size)))
  refine wpAny_bind (wpAny_standAt (wpAny_bind ?_))
  refine wpAny_subDictH (knd := tupleKind (mixKind X.prog X.w)) hu h15 (thn run fun ws s2 z => ?_)
  obtain ⟨ps, H2, I2, rel, e, kvs, tk, lk, q2⟩ := z
  obtain ⟨rs, c, k⟩ := carries_t I2.hok tk rel
  obtain ⟨z, hsd, xs, rel0, dd⟩ := dt_of I2.hok e
  cases rel0
  refine ⟨rs, c, dd, fun h' tk' dd' hs => wpAny_pure ?_⟩
  obtain ⟨q0, es, ep, hq, h2, h3, h4, _, h5⟩ := dd'
  refine ⟨.ref s.heap.objs.size, _, d_write (ob := .dT (mergeT [] kvs)) (t' := tk') I2 (by rw [e]; exact True.intro) hs ⟨q0, hq⟩ ⟨?_, hsd, _, (kt_merge k .nil).keeps fun c ys ec => ?_, q0, es, ep, hq, h2, h3, h4, h5⟩, rfl, q2⟩
  · have := mergeT_len kvs []
    rw [List.length_nil] at this
    rw [sizeLine_eq]
    omega
  · rw [upd_ne (ne_of ec e (fun z => nomatch z))]
    exact ec
def rRepr (K : PySem.W.Frag) : List V → Hp → VK → Prop := fun xs H Q => ∃ x d, xs = [x] ∧ Dp K H x d ∧ d.showable = true ∧ d.hasDict = false ∧ d.depth ≤ 50 ∧ d.shown.length ≤ sizeLine ∧ Q (.str d.shown) H
theorem call_repr_data (hg : X.A.guards = some []) (hu : X.A.units + 64 < cLine) : CallR X (.builtin "repr") (rRepr X.K) := by
  intro pins s σ H xs us Q I r h
  obtain ⟨x, d, rfl, hd, hs, hD, hdp, hz, q⟩ := h
  obtain ⟨u, rfl, ru⟩ := vals1 r
  obtain ⟨as, rd⟩ := Dp.reads I d x u hd ru
  have toRef : ∀ {a : Addr}, u = .ref a → wpAny (model X.prog X.w) X.A (call (.builtin "repr") [u]) (EP X pins σ Q) X.xe s := fun {a} e => by
    subst e
    exact repr_of_reads' rd hs (fun z => by rw [hD] at z; cases z) hg (by omega) (fun _ _ e => e) (fun h' u tk hk => ⟨.str d.shown, H, I.kept hk, ⟨u, rfl⟩, q⟩) hz
  cases hd with
  | non =>
    obtain rfl : u = Value.none := ru
    rw [PyData.shown_none] at q
    exact PySem.P.repr_of_none ⟨.str "None", H, I.tok _, ⟨_, rfl⟩, q⟩
  | bl b =>
    obtain rfl : u = Value.bool b := ru
    rw [PyData.shown_bool] at q
    exact PySem.P.repr_of_bool ⟨.str _, H, I.tok _, ⟨_, rfl⟩, q⟩
  | int i =>
    obtain ⟨t, rfl⟩ := ru
    rw [PyData.shown_int] at q
    have hi : i.natAbs.log2 < 1920 := by simpa [PyData.showable] using hs
    exact PySem.P.repr_of_int hi ⟨.str _, H, I.tok _, ⟨_, rfl⟩, q⟩
  | str x =>
    obtain ⟨t, rfl⟩ := ru
    rw [PyData.shown_str] at q hz
    exact PySem.P.repr_of_str ⟨.str _, H, I.tok _, ⟨_, rfl⟩, q⟩ hz
  | lst h1 h2 => exact toRef ru
  | tup h1 h2 => exact toRef ru
end
end Xt
set_option Elab.async false
set_option linter.all false
set_option maxRecDepth 100000
set_option maxHeartbeats 4000000
namespace Xg
open PySem PySem.Spec PyProof.Rows L2
structure FnG (P : Program) (w : World) (K : PySem.W.Frag) (mg : Str → Option Value) (base : Heap) (CX : CXT) (k : Nat) (f : Addr) (fd : FuncData) (ps : List Str) (sp : Sp) : Prop where
  size : ∀ {vs H Q E}, sp vs H Q E → vs.length = ps.length
  go : ∀ {A : Around} {outer : List Env} {s : Shared} {H : Hp} {args : Args} {us : List Value} {vs : List V} {Q : VK} {E : XK}, A.guards = some [] → Room k A → Env0 P w K mg base A outer s H →
    BindsTo s fd args (ps.zip us) → Vals vs us → sp vs H Q E → codeAny (model P w) A (.call (.ref f) args) (CR CX outer P w H s Q E) s
section
variable {CX : CXT} {P : Program} {w : World} {K : PySem.W.Frag} {mg : Str → Option Value} {base : Heap} {k : Nat} {f : Addr} {fd : FuncData} {N ps : List Str} {sp : Sp}
theorem g_deep {A : Around} {env : Env} (h : A.guards = some []) : (A.deeper env).guards = some [] := h
/-- a def by its body -/
theorem fnG_of {name qual : Str} {params : Arguments} {body : List Stmt} {scope : Scope} {dV kV doc pm cdv ct oc : Value} {an od : Option Addr} {osl : Array (Option Value)}
    (lk : K.lookup f = some ⟨oc, od, .func (PySem.W.fnOf name qual params body scope dV kV doc pm an cdv ct), osl⟩) (hcd : PySem.W.codeIn K cdv qual = true) (S : FnScope N ps scope) (size : ∀ {vs H Q E}, sp vs H Q E → vs.length = ps.length)
    (hb : ∀ (A : Around) (outer : List Env) (s : Shared) (H : Hp) (vs : List V) (Q : VK) (E : XK), A.guards = some [] → Room k (A.deeper (envOfC qual scope s.heap.objs.size f cdv)) → sp vs H Q E →
      ∃ t, PSs (cxOf CX P w K mg base N qual scope f cdv A outer s H E) body t ∧ t { nx := fun _ H' => Q .non H', rt := Q } (start N vs) H) :
    FnG P w K mg base CX (k + 1) f (PySem.W.fnOf name qual params body scope dV kV doc pm an cdv ct) ps sp := by
  refine ⟨size, fun {A outer s H args us vs Q E} hg hr e0 bt r hsp => ?_⟩
  have old : ∀ b o, base.get? b = some o → s.heap.get? b = some o := fun b o e => (e0.bs b o e).1
  have inK := e0.mod.kin.keeps old
  have kinds : ∀ y ∈ ps.zip us, scope.names.lookup y.1 = some .local ∨ (scope.names.lookup y.1 = some .cell ∧ ((cellsFrom (s.heap.objs.size + 1) scope.names []).lookup y.1).isSome = true) := by
    rintro ⟨n, v⟩ hy
    exact (S.par n (List.of_mem_zip hy).1).imp id fun q => ⟨q, PySem.W.cellsFrom_some _ _ _ (.inl q)⟩
  refine codeAny_call_function hr.depth (inK _ _ lk) rfl S.co S.gen rfl (PySem.W.codeRec_of inK hcd) (bt _ _ _ _ (wpAny_newFunctionEnv_cells S.kind kinds fun env he s1 x => ?_))
  subst he
  refine ⟨(e0.mod.nolimit.keeps old).keeps x.toInCall.keep, codeAny_func ?_⟩
  obtain ⟨t, ht, hq⟩ := hb A outer s H vs Q E hg (hr.deeper _) hsp
  refine wpAny_mono (ht.run [] s1 (start N vs) H _ (inv_start S hr.hd e0 (size hsp) r x) hq) (fun fl s' z => ?_) fun e s' z => z
  rcases fl with _ | _ | _ | u
  all_goals first
    | exact (z.choose_spec.choose_spec.2).elim
    | skip
  · obtain ⟨σ', H', J, q⟩ := z
    exact ⟨V.non, H', J.os, J.bare, J.base, J.hok, (rfl : RelV V.non Value.none), q⟩
  · obtain ⟨v, σ', H', J, rv, q⟩ := z
    exact ⟨v, H', J.os, J.bare, J.base, J.hok, rv, q⟩
end
section
variable {X : Cx} {CX : CXT} {k : Nat} {f : Addr} {fd : FuncData} {ps : List Str} {sp : Sp} {dvs : List V} {ds : List Value} {E : XK} {x : Str} {p pos : Pos} {e : Expr} {es : List Expr} {t : TA}
/-- f(e, ..) -/
theorem pe_callG (F : FnG X.prog X.w X.K X.mg X.base CX k f fd ps sp) (g : X.A.guards = some []) (hr : Room k X.A) (hgl : Gl X x) (hm : X.mg x = some (.ref f)) (hk : PySem.W.keepIn X.K (.ref f) = true) (hb : Binds X.K fd ps ds) (hd : Vals dvs ds) (hx : Passes CX X E)
    (ha : PA X (e :: es) t) (hdb : (x == ("__debug__" : Str)) = false := by decide) (he : starEach (e :: es) X.env = (false, eval e X.env) :: starEach es X.env := by rfl) (hpl : (backTo pos (starEach es X.env)).any (·.1) = false := by rfl) :
    PE X (.Call (.Name x p) (e :: es) [] pos) (tCall sp dvs E t) := ⟨fun pins s σ H Q I h => by
  refine wpAny_Call_Name_kw (ld_glob I hgl hm (PySem.W.callWith_K (h₀ := X.base) I.ok.mod.kin hk (thn (ha.run pos pins s σ H _ I h) fun us s1 z => ?_) he hpl) hdb)
  obtain ⟨vs, H1, I1, r, q⟩ := z
  refine ⟨I1.kIn, wpAny_call (codeAny_mono (F.go g hr I1.env0 (hb s1 us I1.kIn ?_) (r.append hd) q) fun res s2 c => ?_)⟩
  · rw [← (r.append hd).length]
    exact F.size q
  · rcases res with er | fl
    · exact hx pins σ H1 s1 er s2 I1 c
    · rcases fl with _ | _ | _ | u
      all_goals first
        | exact I1.after c
        | exact c.elim⟩
end
/-- the law's call, where no repr is under way; cs: the code objects and their tables -/
theorem law_callG {P : Program} {w : World} {K : PySem.W.Frag} {mg mb : Str → Option Value} {CX : CXT} {k : Nat} {fa a : Addr} {cs : List (Addr × Addr)} {fd : FuncData} {x : Str} {sp : Sp} {s : Shared} {vs : List Value} {ns : List Int}
    (KX : K.In s.heap) (hns : s.heap.Ns mainGlobals mg) (hb : s.heap.Ns builtinsNs mb) (hbb : ∀ x : Str, x ≠ "__name__" → mb x = bootBuiltins x) (hlim : s.heap.NoLimit) (hg : s.gens = #[])
    (hT : ∀ p ∈ cs, s.heap.get? p.2 = some { cls := .none, data := .fields #[] }) (nT : ∀ p ∈ cs, K.lookup p.2 = none) (C : ∀ p ∈ cs, PySem.W.CodeHd s.heap p.1 p.2)
    (hbm : ∃ (bm : Addr) (ob : Obj), mg "__builtins__" = some (.ref bm) ∧ bm ≠ builtinsNs ∧ s.heap.get? bm = some ob ∧ ob.cls = .type "module" ∧ ob.dict = some builtinsNs ∧ ob.data = .plain)
    (ha : s.heap.get? a = some { cls := .type "list", data := .seq vs.toArray }) (hi : IntsAre vs ns) (hl : ns.length ≤ sizeLine) (hr : Room k callerA)
    (F : ∀ base : Heap, K.In base → base.Ns mainGlobals mg → (∀ p ∈ cs, LamX.TabB base mg p.1 p.2) → FnG P w K mg base CX k fa fd [x] sp) (hbind : ∀ (s : Shared) (u : Value), BindsTo s fd ⟨[u], []⟩ [(x, u)])
    (hsp : ∀ H : Hp, (∀ p ∈ cs, H p.2 = some (.tbl #[])) → SqL K H a (ns.map V.int) → sp [.ref a] H (fun v _ => v = .bl true) fun _ _ _ => False)
    (hCX : ∀ H e s', CX [] H s (fun _ _ _ => False) e s' → False) :
    codeAny (model P w) callerA (.call (.ref fa) ⟨[.ref a], []⟩) (fun r s' => r = .ok (.ret (.bool true)) ∧ OldK s.heap s'.heap ∧ s'.os = s.os ∧ AllBare s'.gens) s := by
  classical
  let tb : Addr → Prop := fun b => ∃ p ∈ cs, p.2 = b
  let scr : HO := .frz { cls := .type "list", data := .seq vs.toArray } (.lst (ns.map V.int))
  let H : Hp := fun b => if tb b then some (.tbl #[]) else if b = a ∧ K.lookup a = none then some scr else none
  have tbAt : ∀ {b}, tb b → s.heap.get? b = some { cls := .none, data := .fields #[] } := by
    rintro b ⟨p, hp, rfl⟩
    exact hT p hp
  have aNot : ¬ tb a := fun z => by
    have q := tbAt z
    rw [ha] at q
    exact nomatch congrArg Obj.data (Option.some.inj q)
  have hTb : ∀ {b}, tb b → H b = some (.tbl #[]) := fun z => if_pos z
  have look : ∀ b u, H b = some u → (tb b ∧ u = .tbl #[]) ∨ (b = a ∧ K.lookup a = none ∧ u = scr) := fun b u z => by
    by_cases c1 : tb b
    · rw [hTb c1] at z
      exact .inl ⟨c1, (Option.some.inj z).symm⟩
    · have z2 : (if b = a ∧ K.lookup a = none then some scr else none) = some u := (if_neg c1).symm.trans z
      by_cases c2 : b = a ∧ K.lookup a = none
      · rw [if_pos c2] at z2
        exact .inr ⟨c2.1, c2.2, (Option.some.inj z2).symm⟩
      · rw [if_neg c2] at z2
        cases z2
  have what : ∀ b u o, H b = some u → s.heap.get? b = some o → o.data = .fields #[] ∨ o.data = .seq vs.toArray 0 := fun b u o z e => by
    rcases look b u z with ⟨t, _⟩ | ⟨rfl, _, _⟩
    · rw [tbAt t] at e
      cases e
      exact .inl rfl
    · rw [ha] at e
      cases e
      exact .inr rfl
  have free : ∀ {b : Addr} {o : Obj}, s.heap.get? b = some o → o.data ≠ .fields #[] → (∀ l n, o.data ≠ .seq l n) → H b = none := fun {b o} e n1 n2 => by
    cases z : H b with
    | none => rfl
    | some u => exact ((what b u o z e).elim n1 (n2 _ _)).elim
  have keepB : ∀ {b : Addr} {o : Obj}, s.heap.get? b = some o → o.data ≠ .fields #[] → (∀ l n, o.data ≠ .seq l n) → (hidT s.heap H).get? b = some o := fun e n1 n2 => hidT_get e (free e n1 n2)
  have nsAt : ∀ {b : Addr} {m : Str → Option Value}, s.heap.Ns b m → (hidT s.heap H).Ns b m := by
    rintro b m ⟨o, es, ep, e, d, r⟩
    exact ⟨o, es, ep, keepB e (by rw [d]; exact fun z => nomatch z) (by rw [d]; exact fun _ _ z => nomatch z), d, r⟩
  have inB : K.In (hidT s.heap H) := fun b o e => hidT_get (KX b o e) (by
    cases z : H b with
    | none => rfl
    | some u =>
      rcases look b u z with ⟨⟨p, hp, rfl⟩, _⟩ | ⟨rfl, n, _⟩
      · rw [nT p hp] at e; cases e
      · rw [n] at e; cases e)
  have modB : L2.Mod K mg (hidT s.heap H) := by
    obtain ⟨mc, q1, q2⟩ := hlim
    exact ⟨inB, nsAt hns, ⟨mb, nsAt hb, hbb⟩, mc, nsAt q1, q2⟩
  have okH : HOk P w H s.heap := fun b u z => by
    rcases look b u z with ⟨t, rfl⟩ | ⟨rfl, n, rfl⟩
    · exact tbAt t
    · exact ⟨ha, by rw [List.length_map]; exact hl, vs, _, vals_ints hi, ha⟩
  have seqA : SqL K H a (ns.map V.int) := by
    cases n : K.lookup a with
    | none => exact .inl (.inr ⟨{ cls := .type "list", data := .seq vs.toArray }, (if_neg aNot).trans (if_pos ⟨rfl, n⟩)⟩)
    | some o =>
      have e := KX a o n
      rw [ha] at e
      cases e
      exact .inr ⟨_, vs.toArray, _, n, rfl, rfl, rfl, by rw [List.size_toArray, hi.length]; exact hl, by simpa using vals_ints hi⟩
  have tabs : ∀ p ∈ cs, LamX.TabB (hidT s.heap H) mg p.1 p.2 := fun p hp => by
    have tp := hT p hp
    refine ⟨?_, ?_, fun z => ?_⟩
    · obtain ⟨o, us, file, tf, flags, tg, inF, text, tt, e1, r1, r2, r3, rest⟩ := C p hp
      refine ⟨o, us, file, tf, flags, tg, inF, text, tt, keepB e1 (fun z => ?_) (fun l n z => ?_), r1, r2, r3, rest⟩
      · rw [r2] at z; cases z; simp at r3
      · rw [r2] at z; cases z
    · obtain ⟨bm, ob, b1, b2, b3, b4, b5, b6⟩ := hbm
      refine ⟨bm, ob, b1, b2, fun q => ?_, fun q => ?_, keepB b3 (by rw [b6]; exact fun z => nomatch z) (by rw [b6]; exact fun _ _ z => nomatch z), b4, b5, b6⟩
      · obtain ⟨o, es, ep, e, hd, _⟩ := hns
        rw [q, e] at b3
        cases b3
        rw [hd] at b6
        cases b6
      · rw [q, tp] at b3
        cases b3
        cases b6
    · obtain ⟨o, es, ep, e, hd, _⟩ := hns
      rw [z, tp] at e
      cases e
      cases hd
  have env0 : Env0 P w K mg (hidT s.heap H) callerA [] s H := ⟨rfl, modB, fun b o e => of_hidT e, Nat.le_of_eq (hidT_size _ _), trivial, fun b z => (nomatch z), okH, .of_eq hg⟩
  refine codeAny_mono ((F _ inB (nsAt hns) tabs).go (us := [.ref a]) (vs := [.ref a]) rfl hr env0 (hbind s (.ref a)) (.cons rfl .nil) (hsp H (fun p hp => hTb ⟨p, hp, rfl⟩) seqA)) fun r s2 c => ?_
  rcases r with er | fl
  · exact (hCX H er s2 c).elim
  · rcases fl with _ | _ | _ | u
    all_goals first
      | exact c.elim
      | skip
    obtain ⟨v, H2, os, bare, un, ok2, rv, q⟩ := c
    subst q
    obtain rfl : u = Value.bool true := rv
    have same : ∀ b o, ¬ tb b → s.heap.get? b = some o → s2.heap.get? b = some o := fun b o nb e => by
      cases z : H b with
      | none => exact un.keep b o e z (fun z => nomatch z) (fun z => nomatch z)
      | some u =>
        rcases look b u z with ⟨t, _⟩ | ⟨rfl, n, rfl⟩
        · exact (nb t).elim
        · obtain ⟨y, _⟩ := ok2 b _ (un.frzs b _ _ z)
          rw [ha] at e
          cases e
          exact y
    have more : ∀ b, tb b → ∃ m : Array Value, s2.heap.get? b = some { cls := .none, data := .fields m } := fun b t => by
      obtain ⟨m, z⟩ := un.tbls b #[] (hTb t)
      exact ⟨_, ok2 b _ z⟩
    refine ⟨rfl, ⟨fun b o e => ?_, fun b o e => ?_⟩, os, bare⟩
    · by_cases c1 : tb b
      · obtain ⟨m, hm⟩ := more b c1
        obtain ⟨p, hp, rfl⟩ := c1
        rw [hT p hp] at e
        cases e
        exact .inr (.inl ⟨((C p hp).tab (hT p hp)).isCodeTable, rfl, #[], m, rfl, by rw [Array.empty_append]; exact hm⟩)
      · exact .inl (same b o c1 e)
    · by_cases c1 : tb b
      · obtain ⟨m, hm⟩ := more b c1
        exact ⟨_, hm⟩
      · exact ⟨o, same b o c1 e⟩
def LawAtG (l : PySem.W.OpenLaw) (w : World) (K : PySem.W.Frag) (CX : CXT) (k n : Nat) (x : Str) (mg : Str → Option Value) (fa : Addr) (h : Heap) : Prop :=
  ∃ (fd : FuncData) (cs : List (Addr × Addr)) (sp : Sp), ((∀ p ∈ cs, h.get? p.2 = some { cls := .none, data := .fields #[] }) ∧ (∀ p ∈ cs, K.lookup p.2 = none) ∧ ∀ p ∈ cs, PySem.W.CodeHd h p.1 p.2) ∧ (∀ (s : Shared) (u : Value), BindsTo s fd ⟨[u], []⟩ [(x, u)]) ∧
    (∀ (H : Hp) (a : Addr) (ns : List Int), ns.length ≤ n → (∀ z ∈ ns, Builtin.Int.intBits z ≤ 1048576) → (∀ p ∈ cs, H p.2 = some (.tbl #[])) → SqL K H a (ns.map V.int) → sp [.ref a] H (fun v _ => v = .bl true) fun _ _ _ => False) ∧
    ∀ base : Heap, K.In base → base.Ns mainGlobals mg → (∀ p ∈ cs, LamX.TabB base mg p.1 p.2) → FnG l.prog w K mg base CX k fa fd [x] sp
theorem walk_ofG {l : PySem.W.OpenLaw} {n k : Nat} {q : Program} {loose : List Str} {XP : (Str → Option Value) → Heap → Prop} {YP : World → Heap → Prop} {d : DefRec} {K : Params → PySem.W.Frag} {CX : World → CXT} {x : Str}
    (hn : l.most = some n) (hn2 : n ≤ sizeLine) (hdf : d.params.defaults = []) (hr : Room k callerA) (hY : ∀ (w : World) (h : Heap), YP w h → (K w.params).In h)
    (F : ∀ (w : World) (mg : Str → Option Value) (fa : Addr) (h : Heap), YP w h → (K w.params).In h → h.Ns mainGlobals mg → mg d.name = some (.ref fa) → LawAtG l w (K w.params) (CX w) k n x mg fa h)
    (hCX : ∀ (w : World) (H : Hp) (s : Shared) (e : Value) (s' : Shared), CX w [] H s (fun _ _ _ => False) e s' → False) :
    PySem.W.WalkO q loose XP YP l.row.toRowW d [] (fun f vs => PySem.call f vs) := by
  refine Att.attach_callB hn hdf fun w s₀ s mg mb fa o pm cd doc a vs ns G Y ho hd hcd hmg hobj hints hlen hbits hg => ?_
  obtain ⟨fd, cs, sp, ⟨hT, nT, C⟩, hb, hsp, hF⟩ := F w mg fa _ Y (hY w _ Y) G.T.g hmg
  exact law_callG (hY w _ Y) G.T.g G.T.b G.T.builtins G.T.nolimit hg hT nT C G.T.bmain hobj hints (Nat.le_trans hlen hn2) hr hF hb (fun H hH hS => hsp H a ns hlen hbits hH hS) fun H e s' => hCX w H s e s'
end Xg
set_option Elab.async false
set_option linter.all false
set_option maxRecDepth 100000
set_option maxHeartbeats 4000000
namespace Xo
open PySem PySem.Spec PyProof.Rows L2
section
variable {M : Model} {prog : Program} {w : World} {A : Around} {E : Value → Shared → Prop} {s : Shared} {K : PySem.W.Frag} {x y C f : Addr} {ox oy : Obj} {od oe : Option Obj}
theorem bound_ne {args : List Value} {Q : Option Value → Shared → Prop} (X : K.In s.heap) (I : PySem.W.InstAt s.heap x ox C od) (hs : PySem.W.findIn K (.ref C) "__ne__" = some (some (.builtin "object.__ne__")))
    (h : wpAny M A (call (.builtin "object.__ne__") (.ref x :: args)) (fun v => Q (some v)) E s) : wpAny M A (callSpecialIfBound? (.ref x) "__ne__" args) Q E s := by
  have fin : wpAny M A (call (.builtin "object.__ne__") ([.ref x] ++ args) >>= fun v => pure (some v)) Q E s := wpAny_bind (wpAny_mono h (fun _ _ z => wpAny_pure z) fun _ _ z => z)
  unfold callSpecialIfBound? bindSpecialIfBound?
  refine wpAny_holding (wpAny_bind (wpAny_bind (wpAny_bind (I.type.here ((PySem.W.looks_findIn X hs).here (wpAny_bind (wpAny_askSetting (wpAny_ite ?_))))))))
  split
  · exact wpAny_bind (wpAny_of_eq (F.cmp_object.ne.bind _) (wpAny_pure (by exact fin)))
  · exact wpAny_tryCatch (wpAny_bind (wpAny_of_eq (F.cmp_object.ne.bind _) (wpAny_pure (by exact fin))))
theorem entry_ne {Q : Fin → Shared → Prop} (hu : A.units < cLine) (X : K.In s.heap) (I : PySem.W.InstAt s.heap x ox C od) (hs : PySem.W.findIn K (.ref C) "__eq__" = some (some (.ref f))) (hf : PySem.W.isFn K (.ref f) = true)
    (hc : wpAny (model prog w) A (call (.ref f) [.ref x, .ref y]) (fun v s' => ∃ b, v = .bool b ∧ Q (.done (.ret (.bool (!b)))) s') E s) : wpAny (model prog w) A (Builtin.«object.__ne__» ⟨[.ref x, .ref y], []⟩) Q E s := by
  unfold Builtin.«object.__ne__»
  repeat (first
    | with_reducible refine wpAny_cRoomFor hu ?_
    | (refine wpAny_bind (m := callSpecialIfBound? (.ref x) (Str.ofString "__eq__") [.ref y]) (PySem.W.ifBound_K X I hs hf (wpAny_mono hc (fun r s' z => by
        obtain ⟨b, rfl, hq⟩ := z
        repeat (first | exact hq | exact wpAny_pure hq | exact wpAny_truthy_bool hq | (refine wpAny_bind (m := truthy (.bool _)) (wpAny_truthy_bool ?_)) | wp_step)) fun _ _ e => e)))
    | wp_step)
theorem rc_ne {Q : Value → Shared → Prop} (hu : A.units + 1 < cLine) (X : K.In s.heap) (I : PySem.W.InstAt s.heap x ox C od) (J : PySem.W.InstAt s.heap y oy C oe) (hm : PySem.W.mroIn K C (.type "object") = some true) (hn : PySem.W.findIn K (.ref C) "__ne__" = some (some (.builtin "object.__ne__")))
    (hs : PySem.W.findIn K (.ref C) "__eq__" = some (some (.ref f))) (hf : PySem.W.isFn K (.ref f) = true) (hc : wpAny (model prog w) A.in1 (call (.ref f) [.ref x, .ref y]) (fun v s' => ∃ b, v = .bool b ∧ Q (.bool (!b)) s') E s) :
    wpAny (model prog w) A (richCompare .NotEq (.ref x) (.ref y)) Q E s := by
  have one : wpAny (model prog w) A (tryCompare (.ref x) "__ne__" (.ref y)) (fun r s' => ∃ b, r = some (.bool (!b)) ∧ Q (.bool (!b)) s') E s := by
    unfold tryCompare
    refine wpAny_bind (bound_ne X I hn (wpAny_call (codeAny_call_builtin F.cmp_object.ne.plain F.cmpEntry_ne (PySem.W.check_slot F.cmpKind_ne F.cmpSplit_ne (I.type.andThen (PySem.W.looks_mroIn X hm)) (F.cmpArgs_ne _ _) (entry_ne (A := A.in1) hu X I hs hf (wpAny_mono hc (fun v s' z => ?_) fun _ _ e => e))))))
    obtain ⟨b, rfl, hq⟩ := z
    first | exact ⟨b, rfl, wpAny_pure ⟨b, rfl, hq⟩⟩ | exact ⟨b, rfl, wpAny_pure (wpAny_pure ⟨b, rfl, hq⟩)⟩
  have same : (Value.ref C != Value.ref C) = false := by simp
  simp only [richCompare, cmpInfo_NotEq, oneThing_ref]
  refine wpAny_holding (wpAny_bind (wpAny_cRoomFor (Nat.lt_of_succ_lt hu) (wpAny_bind (I.type.here (wpAny_bind (J.type.here ?_))))))
  rw [same]
  refine wpAny_bind (wpAny_pure ?_)
  simp only [Bool.false_eq_true, if_false]
  refine wpAny_bind (wpAny_mono one (fun r s1 z => ?_) fun _ _ e => e)
  obtain ⟨b, rfl, hq⟩ := z
  exact wpAny_pure hq
end
/-- x == y, x != y by the own __eq__'s promise -/
def rOwn (C : Addr) (sp : Sp) (E : XK) (g : Bool → Bool) : R2 := fun x y H Q => ∃ (a b dx dy : Addr) (fs gs : List (Str × V)), x = .ref a ∧ y = .ref b ∧ H a = some (.ins C dx fs) ∧ H b = some (.ins C dy gs) ∧ sp [.ref a, .ref b] H (fun v H' => ∃ k, v = .bl k ∧ Q (.bl (g k)) H') E
section
variable {X : Cx} {CX : CXT} {n : Nat} {C f : Addr} {fd : FuncData} {ps : List Str} {sp : Sp} {E : XK}
theorem run_own {A : Around} {pins : List (Addr × Obj)} {σ : L2.St} {H : Hp} {s : Shared} {a b : Addr} {R : Bool → Hp → Prop} (F : FnOk X.prog X.w X.K X.mg X.base CX n f fd ps sp) (hb : Binds X.K fd ps []) (hx : Passes CX X E) (hr : Room n A) (hf : A.frames = X.A.frames) (I : Inv X pins σ H s)
    (h : sp [.ref a, .ref b] H (fun v H' => ∃ k, v = .bl k ∧ R k H') E) : wpAny (model X.prog X.w) A (call (.ref f) [.ref a, .ref b]) (fun u s' => ∃ k H', u = .bool k ∧ Inv X pins σ H' s' ∧ R k H') X.xe s := by
  have e0 := I.env0
  have e1 : Env0 X.prog X.w X.K X.mg X.base A X.stack s H := ⟨by rw [hf]; exact e0.frames, e0.mod, e0.bs, e0.bsz, e0.funs, e0.frf, e0.hok, e0.bare⟩
  have bt := hb s [.ref a, .ref b] I.kIn (F.len _ _ _ _ h)
  rw [List.append_nil] at bt
  refine wpAny_call (codeAny_mono (F.run A X.stack s H ⟨[.ref a, .ref b], []⟩ [.ref a, .ref b] [.ref a, .ref b] _ E hr e1 bt (.cons rfl (.cons rfl .nil)) h) fun r s' c => ?_)
  rcases r with er | fl
  · exact hx pins σ H s er s' I c
  · rcases fl with _ | _ | _ | u
    all_goals first
      | exact c.elim
      | skip
    obtain ⟨v, H', J, rv, k, rfl, q⟩ := I.after c
    exact ⟨k, H', rv, J, q⟩
theorem op_eqO (F : FnOk X.prog X.w X.K X.mg X.base CX n f fd ps sp) (hs : PySem.W.findIn X.K (.ref C) "__eq__" = some (some (.ref f))) (hf : PySem.W.isFn X.K (.ref f) = true) (hb : Binds X.K fd ps []) (hx : Passes CX X E) (hr : Room n X.A) : OpR X (compareOp .Eq) (rOwn C sp E id) := by
  intro pins s σ H x y v u Q I rx ry h
  obtain ⟨a, b, dx, dy, fs, gs, rfl, rfl, ha, hb', q⟩ := h
  obtain rfl : v = Value.ref a := rx
  obtain rfl : u = Value.ref b := ry
  obtain ⟨_, O, _⟩ := ins_get I.hok ha
  obtain ⟨_, O', _⟩ := ins_get I.hok hb'
  obtain ⟨od, J, _⟩ := O.look
  obtain ⟨od', J', _⟩ := O'.look
  obtain ⟨m, hF⟩ := I.fr
  show wpAny (model X.prog X.w) X.A (richCompare .Eq (.ref a) (.ref b)) (EP X pins σ Q) X.xe s
  refine PySem.W.cmp_K (op := .Eq) (tb := .ref C) hr.units0 hF I.ok.mod.kin J J'.type (by simp [PySem.W.notFirst]) hs hf (wpAny_mono (run_own (R := fun k H' => Q (.bl k) H') F hb hx hr rfl I q) (fun r s' z => ?_) fun _ _ e => e)
  obtain ⟨k, H', rfl, J2, q2⟩ := z
  exact ⟨.bl k, H', J2, rfl, q2⟩
theorem op_neO (F : FnOk X.prog X.w X.K X.mg X.base CX n f fd ps sp) (hs : PySem.W.findIn X.K (.ref C) "__eq__" = some (some (.ref f))) (hf : PySem.W.isFn X.K (.ref f) = true) (hm : PySem.W.mroIn X.K C (.type "object") = some true) (hn : PySem.W.findIn X.K (.ref C) "__ne__" = some (some (.builtin "object.__ne__"))) (hb : Binds X.K fd ps []) (hx : Passes CX X E) (hr : Room (n + 1) X.A) : OpR X (compareOp .NotEq) (rOwn C sp E fun k => !k) := by
  intro pins s σ H x y v u Q I rx ry h
  obtain ⟨a, b, dx, dy, fs, gs, rfl, rfl, ha, hb', q⟩ := h
  obtain rfl : v = Value.ref a := rx
  obtain rfl : u = Value.ref b := ry
  obtain ⟨_, O, _⟩ := ins_get I.hok ha
  obtain ⟨_, O', _⟩ := ins_get I.hok hb'
  obtain ⟨od, J, _⟩ := O.look
  obtain ⟨od', J', _⟩ := O'.look
  show wpAny (model X.prog X.w) X.A (richCompare .NotEq (.ref a) (.ref b)) (EP X pins σ Q) X.xe s
  have hu := hr.units
  refine rc_ne (by omega) I.kIn J J' hm hn hs hf (wpAny_mono (run_own (R := fun k H' => Q (.bl (!k)) H') F hb hx hr.in1 rfl I q) (fun r s' z => ?_) fun _ _ e => e)
  obtain ⟨k, H', rfl, J2, q2⟩ := z
  exact ⟨k, rfl, .bl (!k), H', J2, rfl, q2⟩
end
end Xo
set_option Elab.async false
set_option linter.all false
set_option maxRecDepth 100000
set_option maxHeartbeats 4000000
namespace Xr
open PySem PySem.Spec PyProof.Rows L2 Evl
/-- what a growing dict, a growing table leave as it is -/
def Stay (u : HO) : Prop := (∀ k, u ≠ .dT k) ∧ (∀ ps, u ≠ .tbl ps) ∧ ∀ o k, u ≠ .frz o (.dT k)
def LT (H H' : Hp) : Prop := ∀ b u, H b = some u → Stay u → H' b = some u
theorem LT.refl (H : Hp) : LT H H := fun _ _ h _ => h
theorem LT.trans {H H1 H2 : Hp} (a : LT H H1) (b : LT H1 H2) : LT H H2 := fun c u h s => b c u (a c u h s) s
theorem LT.of {H H' : Hp} (e : Ex H H') : LT H H' := fun b u h _ => e b u h
theorem LT.ofN {H H' : Hp} (e : LamX.ExtN H H') : LT H H' := fun b u h s => e b u h s.2.1
theorem LT.put {H : Hp} {p : Addr} {u o : HO} (h : H p = some u) (n : ¬ Stay u) : LT H (L2.upd H p o) := fun b v hb s => by
  have ne : b ≠ p := fun z => by rw [z, h] at hb; cases hb; exact n s
  rw [upd_ne ne]
  exact hb
theorem stay_lst {xs : List V} : Stay (.lst xs) := ⟨fun _ z => (by cases z), fun _ z => (by cases z), fun _ _ z => by cases z⟩
theorem stay_tup {xs : List V} : Stay (.tup xs) := ⟨fun _ z => (by cases z), fun _ z => (by cases z), fun _ _ z => by cases z⟩
theorem stay_ins {C dx : Addr} {fs : List (Str × V)} : Stay (.ins C dx fs) := ⟨fun _ z => (by cases z), fun _ z => (by cases z), fun _ _ z => by cases z⟩
theorem stay_dK {kvs : List (Key × V)} : Stay (.dK kvs) := ⟨fun _ z => (by cases z), fun _ z => (by cases z), fun _ _ z => by cases z⟩
theorem no_dT {k : List (List Key × V)} : ¬ Stay (.dT k) := fun s => s.1 k rfl
theorem no_frz {o : Obj} {k : List (List Key × V)} : ¬ Stay (.frz o (.dT k)) := fun s => s.2.2 o k rfl
theorem rd_lt {H H' : Hp} {a : Addr} {u : HO} (e : LT H H') (s : Stay u) (s2 : ∀ o, Stay (.frz o u)) (h : Rd H a u) : Rd H' a u := h.imp (fun z => e _ _ z s) fun ⟨o, z⟩ => ⟨o, e _ _ z (s2 o)⟩
theorem l_lt {K : PySem.W.Frag} {H H' : Hp} {a : Addr} {xs : List V} (e : LT H H') (h : SqL K H a xs) : SqL K H' a xs := h.imp (rd_lt e stay_lst fun _ => ⟨fun _ z => (by cases z), fun _ z => (by cases z), fun _ _ z => by cases z⟩) id
theorem t_lt {K : PySem.W.Frag} {H H' : Hp} {a : Addr} {xs : List V} (e : LT H H') (h : SqT K H a xs) : SqT K H' a xs := h.imp (rd_lt e stay_tup fun _ => ⟨fun _ z => (by cases z), fun _ z => (by cases z), fun _ _ z => by cases z⟩) id
mutual
theorem dp_lt {K : PySem.W.Frag} {H H' : Hp} (e : LT H H') : ∀ (d : PyData) (v : V), Dp K H v d → Dp K H' v d
  | .none, _, h => by cases h; exact .non
  | .bool _, _, h => by cases h; exact .bl _
  | .int _, _, h => by cases h; exact .int _
  | .str _, _, h => by cases h; exact .str _
  | .list ds, _, h => by
    cases h with
    | lst hs ha => exact .lst (l_lt e hs) (dps_lt e ds _ ha)
  | .tuple ds, _, h => by
    cases h with
    | tup hs ha => exact .tup (t_lt e hs) (dps_lt e ds _ ha)
  | .dict _, _, h => by cases h
theorem dps_lt {K : PySem.W.Frag} {H H' : Hp} (e : LT H H') : ∀ (ds : List PyData) (vs : List V), DpAll K H vs ds → DpAll K H' vs ds
  | [], _, h => by cases h; exact .nil
  | d :: ds, _, h => by
    cases h with
    | cons h1 h2 => exact .cons (dp_lt e d _ h1) (dps_lt e ds _ h2)
end
theorem dps_len {K : PySem.W.Frag} {H : Hp} : ∀ {ds : List PyData} {vs : List V}, DpAll K H vs ds → vs.length = ds.length
  | [], _, h => by cases h; rfl
  | d :: ds, _, h => by
    cases h with
    | cons h1 h2 => rw [List.length_cons, List.length_cons, dps_len h2]
section
variable {K : PySem.W.Frag} {σ : L2.St} {H : Hp} {te ta tb : TE} {d : PyData}
def EvD (K : PySem.W.Frag) (te : TE) (σ : L2.St) (H : Hp) (d : PyData) : Prop := ∀ H1, Ex H H1 → ∀ Q : VK, (∀ v H2, Ex H1 H2 → Dp K H2 v d → Q v H2) → te σ H1 Q
def EvDs (K : PySem.W.Frag) (ta : TA) (σ : L2.St) (H : Hp) (ds : List PyData) : Prop := ∀ H1, Ex H H1 → ∀ Q : List V → Hp → Prop, (∀ vs H2, Ex H1 H2 → DpAll K H2 vs ds → Q vs H2) → ta σ H1 Q
theorem evd_of {v : V} (h : Ev te σ H v) (hd : Dp K H v d) : EvD K te σ H d := fun H1 e Q q => h H1 e _ fun H2 e2 => q v H2 e2 (dp_lt (LT.of (e.trans e2)) d v hd)
theorem evd_non : EvD K (tC .non) σ H .none := evd_of ev_c .non
theorem evd_int {i : Int} : EvD K (tC (.int i)) σ H (.int i) := evd_of ev_c (.int i)
theorem evd_str {z x : Str} (h : z = x) : EvD K (tC (.str z)) σ H (.str x) := h ▸ evd_of ev_c (.str z)
theorem evd_var {i : Nat} {v : V} (h : σ[i]? = some (some v)) (hd : Dp K H v d) : EvD K (tVar i) σ H d := evd_of (ev_var h) hd
theorem evds_nil : EvDs K tNil σ H [] := fun H1 _ Q q => q [] H1 (Ex.refl H1) .nil
theorem evds_cons {tr : TA} {ds : List PyData} (h : EvD K te σ H d) (r : EvDs K tr σ H ds) : EvDs K (tCons te tr) σ H (d :: ds) := fun H1 e Q q =>
  h H1 e _ fun v H2 e2 hv => r H2 (e.trans e2) _ fun vs H3 e3 hvs => q (v :: vs) H3 (e2.trans e3) (.cons (dp_lt (LT.of e3) d v hv) hvs)
theorem evd_tup {ta : TA} {ds : List PyData} (h : EvDs K ta σ H ds) (hl : ds.length ≤ 1000) : EvD K (tTup ta) σ H (.tuple ds) := fun H1 e Q q =>
  h H1 e _ fun vs H2 e2 hvs => ⟨by rw [dps_len hvs, sizeLine_eq]; omega, fun p hp => q (.ref p) _ (e2.trans (Ex.new hp)) (.tup (st_of upd_same) (dps_lt (LT.of (Ex.new hp)) ds vs hvs))⟩
theorem evd_lst {ta : TA} {ds : List PyData} (h : EvDs K ta σ H ds) (hl : ds.length ≤ 1000) : EvD K (tLst ta) σ H (.list ds) := fun H1 e Q q =>
  h H1 e _ fun vs H2 e2 hvs => ⟨by rw [dps_len hvs, sizeLine_eq]; omega, fun p hp => q (.ref p) _ (e2.trans (Ex.new hp)) (.lst (sq_of upd_same) (dps_lt (LT.of (Ex.new hp)) ds vs hvs))⟩
def showOk (d : PyData) : Bool := d.showable && !d.hasDict && decide (d.depth ≤ 50) && decide (d.shown.length ≤ 100000)
theorem ev_repr (h : EvD K te σ H d) (ok : showOk d = true) : Ev (tCB (Xt.rRepr K) (tCons te tNil)) σ H (.str d.shown) := fun H1 e Q q => by
  unfold showOk at ok
  simp only [Bool.and_eq_true, decide_eq_true_eq, Bool.not_eq_true'] at ok
  exact h H1 e _ fun v H2 e2 hv => ⟨v, d, rfl, hv, ok.1.1.1, ok.1.1.2, ok.1.2, by rw [sizeLine_eq]; omega, q H2 e2⟩
/-- repr(a) != repr(b) of like data -/
theorem et_same (h1 : EvD K ta σ H d) (h2 : EvD K tb σ H d) (ok : showOk d = true) : EvT (tTest (tOp rNe (tCB (Xt.rRepr K) (tCons ta tNil)) (tCB (Xt.rRepr K) (tCons tb tNil)))) σ H false :=
  et_is (et_test (ev_op (ev_repr h1 ok) (ev_repr h2 ok) (rv_ne rfl))) (by simp)
theorem ev_same (h1 : EvD K ta σ H d) (h2 : EvD K tb σ H d) (ok : showOk d = true) : Ev (tOp rEq (tCB (Xt.rRepr K) (tCons ta tNil)) (tCB (Xt.rRepr K) (tCons tb tNil))) σ H (.bl true) :=
  ev_is (ev_op (ev_repr h1 ok) (ev_repr h2 ok) (rv_eq rfl)) (by simp)
abbrev DEnt := List Key × PyData
abbrev DAt (K : PySem.W.Frag) (H : Hp) : List (List Key × V) → List DEnt → Prop := Paired fun kv e => kv.1 = e.1 ∧ Dp K H kv.2 e.2
abbrev PAt (K : PySem.W.Frag) (H : Hp) : List (V × V) → List DEnt → Prop := Paired fun x e => (∃ b : Addr, x.1 = .ref b ∧ H b = some (.tup (e.1.map kV))) ∧ Dp K H x.2 e.2
theorem dat_lt {H' : Hp} (e : LT H H') {kvs : List (List Key × V)} {es : List DEnt} (h : DAt K H kvs es) : DAt K H' kvs es := Paired.mapP h fun _ _ z => ⟨z.1, dp_lt e _ _ z.2⟩
theorem pat_lt {H' : Hp} (e : LT H H') {ps : List (V × V)} {es : List DEnt} (h : PAt K H ps es) : PAt K H' ps es := Paired.mapP h fun _ _ z => ⟨let ⟨b, h1, h2⟩ := z.1; ⟨b, h1, e _ _ h2 stay_tup⟩, dp_lt e _ _ z.2⟩
def EvK (tk : TE) (σ : L2.St) (H : Hp) (k : List Key) : Prop := EvU tk σ H (k.map kV)
theorem evk_pair {z x : Str} {i : Int} (h : z = x) : EvK (tTup (tCons (tC (.str z)) (tCons (tC (.int i)) tNil))) σ H [.inr x, .inl i] := by
  subst h
  exact eu_tup (ea_cons ev_c (ea_cons ev_c ea_nil)) (by show 2 ≤ 100000; decide)
def EvPs (K : PySem.W.Frag) (trs : List (TE × TE)) (σ : L2.St) (H : Hp) (es : List DEnt) : Prop := ∀ H1, Ex H H1 → ∀ Q : List (V × V) → Hp → Prop, (∀ ps H2, Ex H1 H2 → PAt K H2 ps es → Q ps H2) → tPairs trs σ H1 Q
theorem evps_nil : EvPs K [] σ H [] := fun H1 _ Q q => q [] H1 (Ex.refl H1) .nil
theorem evps_cons {tk tv : TE} {trs : List (TE × TE)} {k : List Key} {es : List DEnt} (hk : EvK tk σ H k) (hv : EvD K tv σ H d) (r : EvPs K trs σ H es) : EvPs K ((tk, tv) :: trs) σ H ((k, d) :: es) := fun H1 e Q q =>
  hk H1 e _ fun b H2 _ e2 hb => hv H2 (e.trans e2) _ fun v H3 e3 hv3 => r H3 ((e.trans e2).trans e3) _ fun ps H4 e4 hps => q _ H4 ((e2.trans e3).trans e4) (.cons ⟨⟨b, rfl, e4 _ _ (e3 _ _ hb)⟩, dp_lt (LT.of e4) d v hv3⟩ hps)
theorem pat_split : ∀ {ps : List (V × V)} {es : List DEnt}, PAt K H ps es → ∃ kvs, Xt.TKeys H ps kvs ∧ DAt K H kvs es := by
  intro ps es h
  unfold PAt at h
  induction h with
  | nil => exact ⟨[], .nil, .nil⟩
  | @cons p e ps es h t ih =>
    obtain ⟨kvs, h1, h2⟩ := ih
    obtain ⟨⟨b, e1, e2⟩, e3⟩ := h
    exact ⟨(e.1, p.2) :: kvs, .cons ⟨⟨b, e1, e2⟩, rfl⟩ h1, .cons ⟨rfl, e3⟩ h2⟩
theorem dat_keys {kvs : List (List Key × V)} {es : List DEnt} (h : DAt K H kvs es) : kvs.map (·.1) = es.map (·.1) := by
  unfold DAt at h
  induction h with
  | nil => rfl
  | cons h t ih => rw [List.map_cons, List.map_cons, h.1, ih]
theorem dat_app {kvs kws : List (List Key × V)} {es fs : List DEnt} (h : DAt K H kvs es) (h2 : DAt K H kws fs) : DAt K H (kvs ++ kws) (es ++ fs) := by
  unfold DAt at h
  induction h with
  | nil => exact h2
  | cons h t ih => exact .cons h ih
theorem merge_new : ∀ {more kvs : List (List Key × V)}, ((kvs ++ more).map (·.1)).Nodup → Xt.mergeT kvs more = kvs ++ more := by
  intro more
  induction more with
  | nil => intro kvs _; rw [List.append_nil]; rfl
  | cons p r ih =>
    intro kvs hn
    have e : putK kvs p.1 p.2 = kvs ++ [p] := by
      unfold putK
      rw [if_neg]
      intro z
      obtain ⟨kv, hm, ek⟩ := List.any_eq_true.mp z
      have ek := of_decide_eq_true ek
      rw [List.map_append, List.nodup_append] at hn
      exact hn.2.2 kv.1 (List.mem_map.mpr ⟨kv, hm, rfl⟩) p.1 (by simp) ek
    have z : Xt.mergeT kvs (p :: r) = Xt.mergeT (putK kvs p.1 p.2) r := rfl
    rw [z, e, ih (by rw [List.append_assoc]; exact hn), List.append_assoc]
    rfl
/-- x = {k: v, ..} -/
theorem ev_disp {trs : List (TE × TE)} {es : List DEnt} {Q : VK} (h : EvPs K trs σ H es) (hn : (es.map (·.1)).Nodup) (hl : es.length ≤ 15) (k : ∀ D H1 kvs, H D = none → Ex H H1 → H1 D = some (.dT kvs) → DAt K H1 kvs es → Q (.ref D) H1) : Xt.tDispT trs σ H Q := fun D hD =>
  h _ (Ex.new hD) _ fun ps H2 e2 hps => by
    obtain ⟨kvs, h1, h2⟩ := pat_split hps
    have hD2 := e2 _ _ (show (L2.upd H D (.dT [])) D = some (.dT []) from upd_same)
    have hk := dat_keys h2
    have hm : Xt.mergeT [] kvs = kvs := merge_new (kvs := []) (by rw [List.nil_append, hk]; exact hn)
    have hlen : kvs.length = es.length := by have := congrArg List.length hk; simpa using this
    refine ⟨hD2, kvs, h1, by omega, ?_⟩
    rw [hm]
    exact k D _ kvs hD ((Ex.new hD).trans e2 |>.mut hD) upd_same (dat_lt (LT.put hD2 no_dT) h2)
/-- x.update({k: v, ..}) -/
theorem q_upd {trs : List (TE × TE)} {es more : List DEnt} {D : Addr} {i : Nat} {kvs : List (List Key × V)} {En : Ends} {tz : TS} {H0 : Hp} (hs : σ[i]? = some (some (.ref D))) (h0 : H0 D = none) (e0 : Ex H0 H) (hD : H D = some (.dT kvs)) (hd : DAt K H kvs es) (h : EvPs K trs σ H more) (hn : ((es ++ more).map (·.1)).Nodup) (hne : es ≠ []) (hl : es.length ≤ 1000) (hl2 : more.length ≤ 15)
    (k : ∀ H1 kvs', Ex H0 H1 → H1 D = some (.dT kvs') → DAt K H1 kvs' (es ++ more) → tz En σ H1) : tSeq (tDrop (tBM K "dict" Xt.rUpd (tVar i) (tCons (Xt.tDispT trs) tNil))) tz En σ H := by
  have hk := dat_keys hd
  have hlen : kvs.length = es.length := by have := congrArg List.length hk; simpa using this
  refine ⟨_, hs, .inr (.inr (.inl ⟨rfl, .inr ⟨kvs, hD⟩⟩)), ev_disp h (by rw [List.map_append, List.nodup_append] at hn; exact hn.2.1) hl2 fun o H1 kws ho e1 ho1 hd1 => ?_⟩
  have hk2 := dat_keys hd1
  have hlen2 : kws.length = more.length := by have := congrArg List.length hk2; simpa using this
  have hD1 := e1 _ _ hD
  have hne' : D ≠ o := fun z => by rw [z, ho] at hD; cases hD
  refine ⟨D, o, kvs, kws, rfl, rfl, hne', hD1, ho1, fun z => ?_, by rw [sizeLine_eq]; omega, ?_⟩
  · rw [z] at hlen
    exact hne (List.length_eq_zero_iff.mp hlen.symm)
  · rw [merge_new (by rw [List.map_append, hk, hk2, ← List.map_append]; exact hn)]
    exact k _ (kvs ++ kws) ((e0.trans e1).mut h0) upd_same (dat_lt (LT.put hD1 no_dT) (dat_app (dat_lt (LT.of e1) hd) hd1))
end
end Xr
set_option Elab.async false
set_option linter.all false
set_option maxRecDepth 100000
set_option maxHeartbeats 4000000
namespace K5
open PySem PySem.Spec PyProof.Rows L2 Evl Xl SX Mi
def top (i : Nat) : Stmt := PySem.Challenge.pw_uselots_k01_whole_texts_and_their_first.main.body.getD i (.Pass ⟨0, 0, 0, 0⟩)
/-- the names of the module that the program asks for -/
structure Txt (K : PySem.W.Frag) (w : World) (mg : Str → Option Value) : Prop where
  type_ : mg "type" = none
  str_ : mg "str" = none
  len_ : mg "len" = none
  all_ : mg "all" = none
  any_ : mg "any" = none
  int_ : mg "int" = none
  enum_ : mg "enumerate" = none
  tuple_ : mg "tuple" = none
  list_ : mg "list" = none
  isi_ : mg "isinstance" = none
  let_ : ∃ u, mg "LETTERS" = some u ∧ RelV (.str (S LET)) u
  fig_ : ∃ u, mg "FIGURES" = some u ∧ RelV (.str (S FIG)) u
section
variable {P : Program} {w : World} {K : PySem.W.Frag} {mg : Str → Option Value} {base : Heap} {f : Addr} {fd : FuncData}
def spIsText (K : PySem.W.Frag) : Sp := fun vs H Q _ => ∃ x T, vs = [x] ∧ TyB K H x T ∧ Q (.bl (decide (T = "str"))) H
theorem scT : FnScope ["value"] ["value"] (C8.fnScope (top 9)) := C8.fnScope_by (by decide +kernel)
theorem ok_is_text (F : C8.Def K mg "is_text" (top 9) f fd) (b : Binds K fd ["value"] []) (T : Txt K w mg) : C8.Cal P w K mg base 1 "is_text" (spIsText K) [] := by
  refine C8.cal0 F b .nil scT (fun vs H Q E h => by obtain ⟨x, t, rfl, _⟩ := h; rfl) (fun cdv A outer s H vs Q E hr h => ?_)
  obtain ⟨x, t, rfl, ht, k⟩ := h
  refine ⟨_, pss_one (ps_ret (pe_cmpR op_isTy (pe_callTy call_type1 (by rfl) T.type_ (by decide +kernel) (pa_cons (pv 0) pa_nil)) (pe_bltn (v := .ty "str") (by rfl) T.str_ (by decide +kernel) rfl) (nomark _))), ?_⟩
  exact ⟨_, rfl, _, _, rfl, ht, _, _, rfl, rfl, k⟩
def spName : Sp := fun vs H Q _ => ∃ x : Wd, vs = [.str (S x)] ∧ x.length ≤ 9000 ∧ ∀ H', Ex H H' → Q (.bl (nameOk x)) H'
theorem scN : FnScope ["word", "sign"] ["word"] (C8.fnScope (top 12)) := C8.fnScope_by (by decide +kernel)
theorem ok_is_name (F : C8.Def K mg "is_name" (top 12) f fd) (b : Binds K fd ["word"] []) (T : Txt K w mg) : C8.Cal P w K mg base 1 "is_name" spName [] := by
  refine C8.cal0 F b .nil scN (fun vs H Q E h => by obtain ⟨x, rfl, _⟩ := h; rfl) (fun cdv A outer s H vs Q E hr h => ?_)
  obtain ⟨x, rfl, hx, k⟩ := h
  refine ⟨_, pss_cons (ps_if (pw_or (pt_not (pt_chain op_le op_le pe_int (pe_callB call_len_str (by rfl) T.len_ boot_len (pa_cons (pv 0) pa_nil)) pe_int))
        (pw_or1 (pt_cmpR op_notIn_sign (pe_ix ix_str (pv 0) pe_int (fun _ _ => rfl)) (C8.pe_gc (by rfl) T.let_) rfl))).pt (pss_one (ps_ret pe_bl)) pss_nil)
    (pss_one (ps_ret (pe_callB (cr_all rfl) (by rfl) T.all_ boot_all (pa_cons (pe_lc (own := [("sign", 1)]) (g := gName 1) (tt := tYes) rfl scN.nd (pi_str (pv 0)) (blkOk_by (N := ["word", "sign"]) (sc := C8.fnScope (top 12)) (by decide +kernel))
      (fun _ _ _ _ _ => pg_name (i := 1) scN.nd rfl (Or.inl rfl)) (fun _ _ _ _ _ => pts_nil)
      (fun _ _ _ _ _ => pe_or (pe_cmpR op_in_sign (pv 1) (C8.pe_gc (by rfl) T.let_) rfl) (pe_one (pe_cmpR op_in_sign (pv 1) (C8.pe_gc (by rfl) T.fig_) rfl)))) pa_nil)))), ?_⟩
  have v0 : ∀ {H1 : Hp}, Ev (tVar 0) (start ["word", "sign"] [V.str (S x)]) H1 (.str (S x)) := ev_var rfl
  have hl : (S x).length = x.length := S_len x
  have small : (S x).length ≤ sizeLine := by rw [hl, sizeLine_eq]; omega
  have len0 : ∀ {H1 : Hp}, Ev (tCB (fun xs H Q => ∃ z, xs = [.str z] ∧ z.length ≤ sizeLine ∧ Q (.int z.length) H) (tCons (tVar 0) tNil)) (start ["word", "sign"] [V.str (S x)]) H1 (.int (x.length : Int)) := ev_is (ev_lenS v0 small) (by rw [hl])
  refine q_when (b := !(decide ((1 : Int) ≤ (x.length : Int)) && decide ((x.length : Int) ≤ 8)) || !(isLet (x.getD 0 0))) (et_or (et_not (et_test (ev_chain ev_c len0 rv_I0 (fun _ => ev_c) fun _ => rv_I0))) fun hf => ?_) (fun hb H1 e1 => ?_) (fun hb H1 e1 => ?_)
  · match x, hf with
    | c :: r, _ => exact et_test (ev_op (ev_op v0 ev_c (rv_ixS (c := c) (by rw [hl]; omega) (atI_nat (xs := c :: r) (j := 0) rfl))) ev_c rv_signN)
  · have e : nameOk x = false := by
      unfold nameOk
      rw [Bool.or_eq_true] at hb
      rcases hb with hb | hb
      · have z : ¬ (1 ≤ x.length ∧ x.length ≤ 8) := fun h => by simp at hb; omega
        by_cases h1 : 1 ≤ x.length
        · have h8 : ¬ x.length ≤ 8 := fun h => z ⟨h1, h⟩
          simp [h8]
        · simp [h1]
      · have z : isLet (x.getD 0 0) = false := by simpa using hb
        rw [z]; simp
    rw [e] at k
    exact s_ret ev_c fun H2 e2 => k H2 (e1.trans e2)
  · have e : nameOk x = (x.map fun c => isLet c || isFig c).all id := by
      rw [Bool.or_eq_false_iff] at hb
      obtain ⟨h1, h2⟩ := hb
      have z1 : (decide (1 ≤ x.length) && decide (x.length ≤ 8)) = true := by simp at h1 ⊢; omega
      have z2 : isLet (x.getD 0 0) = true := by simpa using h2
      unfold nameOk
      rw [z1, z2]
      simp
    rw [e] at k
    refine s_ret (ev_all (bs := x.map fun c => isLet c || isFig c) ?_) fun H2 e2 => k H2 (e1.trans e2)
    have hs : (S x).cps.size = x.length := by simp
    have m : (x.map fun c => isLet c || isFig c).map V.bl = (List.range (S x).cps.size).map fun i => .bl (isLet (x.getD i 0) || isFig (x.getD i 0)) := by
      rw [hs]
      refine List.ext_getElem (by simp) fun i h1 h2 => ?_
      have hi : i < x.length := by simpa using h1
      simp [List.getD_eq_getElem?_getD, hi]
    rw [m]
    refine el_lcS (j := 1) _ v0 (by rw [hs]; omega) (fun y => rfl) fun i c H2 e2 hc => ?_
    have hc' : x.getD i 0 = c := by
      have : x[i]? = some c := by simpa using hc
      simp [List.getD_eq_getElem?_getD, this]
    rw [hc']
    exact ev_orV (ev_op (ev_var rfl) ev_c rv_sign) fun _ => ev_op (ev_var rfl) ev_c rv_sign
end
end K5
set_option Elab.async false
set_option linter.all false
set_option maxRecDepth 100000
set_option maxHeartbeats 4000000
namespace K5
open PySem PySem.Spec PyProof.Rows L2 Evl Xl SX Mi
section
variable {P : Program} {w : World} {K : PySem.W.Frag} {mg : Str → Option Value} {base : Heap} {f : Addr} {fd : FuncData}
def optI : Option Int → V
  | none => .non
  | some n => .int n
def spInt : Sp := fun vs H Q _ => ∃ x : Wd, vs = [.str (S x)] ∧ x.length ≤ 3 ∧ ∀ H', Ex H H' → Q (optI (intOf x)) H'
theorem scI : FnScope ["word", "digits", "sign"] ["word"] (C8.fnScope (top 13)) := C8.fnScope_by (by decide +kernel)
theorem S_eqc {a b : Wd} : (decide (V.str (S a) = V.str (S b))) = decide (a = b) := by
  by_cases h : a = b
  · subst h; simp
  · rw [decide_eq_false h]
    exact decide_eq_false fun z => h (S_inj (V.str.inj z))
theorem all_sign {x : Wd} {tl : TE} {σ : L2.St} {H : Hp} {te : TE} {j : Nat} {vs : List Nat} {K : PySem.W.Frag} (f : Nat → Bool) (hx : x.length ≤ 40000) (h : Ev tl σ H (.str (S x))) (hw : ∀ y, wipe ((wipe σ vs).set j (some y)) vs = wipe σ vs)
    (he : ∀ c H1, c ∈ x → Ev te ((wipe σ vs).set j (some (.str ⟨#[c]⟩))) H1 (.bl (f c))) : Ev (tCB (rAll K) (tCons (tLc (iStr tl) (gName j) tYes te vs) tNil)) σ H (.bl (x.all f)) := by
  have hs : (S x).cps.size = x.length := by simp
  have e : x.all f = (x.map f).all id := by simp
  rw [e]
  refine ev_all ?_
  have m : (x.map f).map V.bl = (List.range (S x).cps.size).map fun i => .bl (f (x.getD i 0)) := by
    rw [hs]
    refine List.ext_getElem (by simp) fun i h1 h2 => ?_
    have hi : i < x.length := by simpa using h1
    simp [List.getD_eq_getElem?_getD, hi]
  rw [m]
  refine el_lcS (j := j) _ h (by rw [hs]; omega) hw fun i c H2 e2 hc => ?_
  have hc1 : x[i]? = some c := by simpa using hc
  have hc' : x.getD i 0 = c := by simp [List.getD_eq_getElem?_getD, hc1]
  rw [hc']
  exact he c H2 (List.mem_of_getElem? hc1)
theorem ok_integer_of (F : C8.Def K mg "integer_of" (top 13) f fd) (b : Binds K fd ["word"] []) (T : Txt K w mg) : C8.Cal P w K mg base 1 "integer_of" spInt [] := by
  refine C8.cal0 F b .nil scI (fun vs H Q E h => by obtain ⟨x, rfl, _⟩ := h; rfl) (fun cdv A outer s H vs Q E hr h => ?_)
  obtain ⟨x, rfl, hx, k⟩ := h
  refine ⟨_, pss_cons (ps_set (i := 1) scI.nd rfl (Or.inl rfl) (pe_bm PySem.F.plainAttrs_str PySem.F.slot_str_removeprefix PySem.F.type_str_removeprefix mt_removeprefix (pv 0) (pa_cons pe_str pa_nil)))
    (pss_cons (ps_if (pw_or (pt_cmpR op_eq (pv 1) pe_str (nomark _))
        (pw_or1 (pt_not (pt_val (pe_callB (cr_all rfl) (by rfl) T.all_ boot_all (pa_cons (pe_lc (own := [("sign", 2)]) (g := gName 2) (tt := tYes) rfl scI.nd (pi_str (pv 1)) (blkOk_by (N := ["word", "digits", "sign"]) (sc := C8.fnScope (top 13)) (by decide +kernel))
          (fun _ _ _ _ _ => pg_name (i := 2) scI.nd rfl (Or.inl rfl)) (fun _ _ _ _ _ => pts_nil) (fun _ _ _ _ _ => pe_cmpR op_in_sign (pv 2) (C8.pe_gc (by rfl) T.fig_) rfl)) pa_nil)))))).pt (pss_one (ps_ret pe_non)) pss_nil)
    (pss_cons (ps_if (pw_and (pt_cmpR op_eq (pe_ix ix_str (pv 1) pe_int (fun _ _ => rfl)) pe_str (nomark _)) (pw_and1 (pt_cmpR op_ne (pv 0) pe_str (nomark _)))).pt (pss_one (ps_ret pe_non)) pss_nil)
    (pss_one (ps_ret (pe_callTy call_int_str (by rfl) T.int_ (by decide +kernel) (pa_cons (pv 0) pa_nil)))))), ?_⟩
  refine ⟨_, rfl, rfl, S x, S [45], rfl, rfl, by rw [S_len, sizeLine_eq]; omega, ?_⟩
  rw [prefix_S]
  have dl : (digs x).length ≤ 3 := by
    unfold digs
    split
    · simp at hx; omega
    · exact hx
  have v0 : ∀ {H1 : Hp}, Ev (tVar 0) ((start ["word", "digits", "sign"] [V.str (S x)]).set 1 (some (.str (S (digs x))))) H1 (.str (S x)) := ev_var rfl
  have v1 : ∀ {H1 : Hp}, Ev (tVar 1) ((start ["word", "digits", "sign"] [V.str (S x)]).set 1 (some (.str (S (digs x))))) H1 (.str (S (digs x))) := ev_var rfl
  have l0 : (Str.ofString "" : Str) = S [] := by decide
  have l1 : (Str.ofString "0" : Str) = S [48] := by decide
  refine q_when (b := decide (digs x = []) || !(digs x).all isFig) (et_or (et_is (et_test (ev_op v1 ev_c (rv_eq rfl))) (by rw [l0]; exact S_eqc)) fun _ => et_not (et_B (all_sign isFig (by omega) v1 (fun y => rfl) fun c H1 hc => ev_op (ev_var rfl) ev_c rv_sign))) (fun hb H1 e1 => ?_) (fun hb H1 e1 => ?_)
  · have e : intOf x = none := by
      unfold intOf
      rw [if_pos]
      simpa using hb
    rw [e] at k
    exact s_ret ev_c fun H2 e2 => k H2 (e1.trans e2)
  · have e0 : ¬ (digs x = [] ∨ (digs x).all isFig = false) := by simpa using hb
    obtain ⟨c, r, hcr⟩ : ∃ c r, digs x = c :: r := by
      cases h : digs x with
      | nil => exact absurd (.inl h) e0
      | cons c r => exact ⟨c, r, rfl⟩
    have g0 : (digs x).getD 0 0 = c := by rw [hcr]; rfl
    have dlen : (S (digs x)).length ≤ 100000 := by rw [S_len]; omega
    refine q_when (b := decide (c = 48) && !decide (x = [48])) (et_and (et_is (et_test (ev_op (x := .str ⟨#[c]⟩) (ev_op v1 ev_c (rv_ixS dlen (by rw [hcr]; exact atI_nat (xs := c :: r) (j := 0) rfl))) ev_c (rv_eq rfl))) (by rw [l1]; exact (S_eqc (a := [c]) (b := [48])).trans (by simp))) fun _ => et_is (et_test (ev_op v0 ev_c (rv_ne rfl))) (by rw [l1, S_eqc])) (fun hb2 H2 e2 => ?_) (fun hb2 H2 e2 => ?_)
    · have e : intOf x = none := by
        unfold intOf
        rw [if_neg e0, if_pos]
        rw [g0]
        simpa using hb2
      rw [e] at k
      exact s_ret ev_c fun H3 e3 => k H3 ((e1.trans e2).trans e3)
    · obtain ⟨n, e⟩ : ∃ n, intOf x = some n := by
        unfold intOf
        rw [if_neg e0, if_neg]
        · exact ⟨_, rfl⟩
        · rw [g0]
          simpa using hb2
      rw [e] at k
      exact s_ret (ev_cb (ea_cons v0 ea_nil) fun H3 e3 Q' q => ⟨S x, n, rfl, int_text hx e, by rw [S_len]; omega, q H3 (Ex.refl H3)⟩) fun H3 e3 => k H3 ((e1.trans e2).trans e3)
def ariV (z : Str) : Option V := match ari z.cps.toList with
  | none => none
  | some n => some (.int (Int.ofNat n))
structure Txt2 (K : PySem.W.Frag) (w : World) (mg : Str → Option Value) : Prop extends Txt K w mg where
  ari_ : ∃ p, mg "ARITIES" = some (.ref p) ∧ Xk.KHas K w p ariV
  lwords : ∃ p, mg "LINE_WORDS" = some (.ref p) ∧ ∀ H, SqT K H p [.str (S [112, 97, 114, 116]), .str (S [114, 117, 110])]
  binders : ∃ p, mg "BINDERS" = some (.ref p) ∧ ∀ H, SqT K H p [.str (S [102, 117, 110]), .str (S [108, 101, 116])]
  deep : ∃ t, mg "DEEPEST" = some (.int 30 t)
  mostW : ∃ t, mg "MOST_WORDS" = some (.int 120 t)
  mostP : ∃ t, mg "MOST_PARTS" = some (.int 12 t)
  bwords : ∃ p, mg "BINDING_WORDS" = some (.ref p) ∧ ∀ H, SqT K H p [.str (S [99, 97, 108, 108]), .str (S [108, 101, 116]), .str (S [112, 97, 105, 114])]
def spFree : Sp := fun vs H Q _ => ∃ x : Wd, vs = [.str (S x)] ∧ x.length ≤ 9000 ∧ ∀ H', Ex H H' → Q (.bl (okFree x)) H'
theorem scF : FnScope ["word"] ["word"] (C8.fnScope (top 20)) := C8.fnScope_by (by decide +kernel)
theorem ok_is_free (F : C8.Def K mg "is_free" (top 20) f fd) (b : Binds K fd ["word"] []) (T : Txt2 K w mg) (cN : C8.Cal P w K mg base 1 "is_name" spName []) : C8.Cal P w K mg base 2 "is_free" spFree [] := by
  refine C8.cal0 F b .nil scF (fun vs H Q E h => by obtain ⟨x, rfl, _⟩ := h; rfl) (fun cdv A outer s H vs Q E hr h => ?_)
  obtain ⟨x, rfl, hx, k⟩ := h
  obtain ⟨pa, ma, ha⟩ := T.ari_
  obtain ⟨pl, ml, hl⟩ := T.lwords
  refine ⟨_, pss_one (ps_ret (pe_and (C8.pe_c cN hr (Nat.le_refl _) (by rfl) (pa_cons (pv 0) pa_nil)) (pe_and (pe_cmpR Xk.op_notInK (pv 0) (pe_glob (v := .ref pa) (by rfl) ma rfl) rfl) (pe_one (pe_cmpR op_notIn_seq (pv 0) (pe_glob (v := .ref pl) (by rfl) ml rfl) rfl))))), ?_⟩
  have v0 : ∀ {H1 : Hp}, Ev (tVar 0) (start ["word"] [V.str (S x)]) H1 (.str (S x)) := ev_var rfl
  have e : V.bl (nameOk x && ((!(ariV (S x)).isSome) && (!inV (.str (S x)) [.str (S [112, 97, 114, 116]), .str (S [114, 117, 110])]))) = V.bl (okFree x) := by
    have a1 : (ariV (S x)).isSome = (ari x).isSome := by
      have e : (S x).cps.toList = x := rfl
      unfold ariV
      rw [e]
      cases ari x <;> rfl
    have a2 : inV (.str (S x)) [.str (S [112, 97, 114, 116]), .str (S [114, 117, 110])] = (decide (x = [112, 97, 114, 116]) || decide (x = [114, 117, 110])) := by
      show ((S [112, 97, 114, 116] == S x) || ((S [114, 117, 110] == S x) || false)) = _
      rw [S_beq_eq, S_beq_eq, Bool.or_false, decide_eq_decide.mpr (eq_comm (a := [112, 97, 114, 116]) (b := x)), decide_eq_decide.mpr (eq_comm (a := [114, 117, 110]) (b := x))]
    rw [a1, a2]
    unfold okFree
    cases ari x <;> simp
  refine s_ret (ev_is (ev_andV (ev_call (ea_cons v0 ea_nil) fun H1 e1 Q' q E' => ⟨x, rfl, hx, fun H2 e2 => q H2 e2⟩) fun _ => ev_andV (ev_op v0 ev_c fun H1 e1 Q' q => ⟨S x, pa, ariV, rfl, rfl, ha, q H1 (Ex.refl H1)⟩) fun _ => ev_op v0 ev_c (rv_niT (hl H) rfl rfl)) e) fun H2 e2 => k H2 e2
def spWritten : Sp := fun vs H Q _ => ∃ x : Wd, vs = [.str (S x)] ∧ x.length ≤ 9000 ∧ ∀ H', Ex H H' → Q (.bl (written x)) H'
theorem scW : FnScope ["word", "number"] ["word"] (C8.fnScope (top 23)) := C8.fnScope_by (by decide +kernel)
theorem ev_notN {te : TE} {σ : L2.St} {H : Hp} {x : V} (h : Ev te σ H x) : Ev (tNotN te) σ H (.bl (!decide (x = .non))) := fun H1 e _ q => h H1 e _ fun H2 e2 => q H2 e2
theorem ev_isN {te : TE} {σ : L2.St} {H : Hp} {x : V} (h : Ev te σ H x) : Ev (tIsN te) σ H (.bl (decide (x = .non))) := fun H1 e _ q => h H1 e _ fun H2 e2 => q H2 e2
theorem ok_is_written (F : C8.Def K mg "is_written" (top 23) f fd) (b : Binds K fd ["word"] []) (T : Txt K w mg) (cI : C8.Cal P w K mg base 1 "integer_of" spInt []) : C8.Cal P w K mg base 2 "is_written" spWritten [] := by
  refine C8.cal0 F b .nil scW (fun vs H Q E h => by obtain ⟨x, rfl, _⟩ := h; rfl) (fun cdv A outer s H vs Q E hr h => ?_)
  obtain ⟨x, rfl, hx, k⟩ := h
  refine ⟨_, pss_cons (ps_if (pt_cmpR op_gt (pe_callB call_len_str (by rfl) T.len_ boot_len (pa_cons (pv 0) pa_nil)) pe_int (nomark _)) (pss_one (ps_ret pe_bl)) pss_nil)
    (pss_cons (ps_set (i := 1) scW.nd rfl (Or.inl rfl) (C8.pe_c cI hr (Nat.le_refl _) (by rfl) (pa_cons (pv 0) pa_nil)))
    (pss_one (ps_ret (pe_and (pe_cmp (pc_notN (pv 1))) (pe_one (pe_chain op_le op_le (pe_un un_neg pe_int) (pv 1) pe_int)))))), ?_⟩
  have hl : (S x).length = x.length := S_len x
  have small : (S x).length ≤ sizeLine := by rw [hl, sizeLine_eq]; omega
  have v0 : ∀ {H1 : Hp}, Ev (tVar 0) (start ["word", "number"] [V.str (S x)]) H1 (.str (S x)) := ev_var rfl
  refine q_when (b := decide ((3 : Int) < x.length)) (et_is (et_test (ev_op (ev_lenS v0 small) ev_c rv_I0)) (by rw [hl])) (fun hb H1 e1 => ?_) (fun hb H1 e1 => ?_)
  · have e : written x = false := by
      have z : ¬ x.length ≤ 3 := by have := of_decide_eq_true hb; omega
      unfold written
      rw [decide_eq_false z]
      rfl
    rw [e] at k
    exact s_ret ev_c fun H2 e2 => k H2 (e1.trans e2)
  · have h3 : x.length ≤ 3 := by have := of_decide_eq_false hb; omega
    refine q_asg (v := optI (intOf x)) (ev_call (ea_cons v0 ea_nil) fun H2 e2 Q' q E' => ⟨x, rfl, h3, fun H3 e3 => q H3 e3⟩) fun H2 e2 => ?_
    have v1 : ∀ {H1 : Hp}, Ev (tVar 1) ((start ["word", "number"] [V.str (S x)]).set 1 (some (optI (intOf x)))) H1 (optI (intOf x)) := ev_var rfl
    have e : written x = match intOf x with
        | none => false
        | some n => decide (-99 ≤ n) && decide (n ≤ 99) := by
      unfold written
      rw [decide_eq_true h3]
      rfl
    cases hi : intOf x with
    | none =>
      rw [hi] at e v1
      rw [e] at k
      exact s_ret (ev_is (ev_andV (b := false) (ev_notN v1) fun z => by cases z) rfl) fun H3 e3 => k H3 ((e1.trans e2).trans e3)
    | some n =>
      rw [hi] at e v1
      rw [e] at k
      exact s_ret (ev_is (ev_andV (b := decide (-99 ≤ n) && decide (n ≤ 99)) (ev_notN v1) fun _ => ev_chain (ev_un ev_c ru_neg) v1 rv_I0 (fun _ => ev_c) fun _ => rv_I0) rfl) fun H3 e3 => k H3 ((e1.trans e2).trans e3)
end
end K5
set_option Elab.async false
set_option linter.all false
set_option maxRecDepth 100000
set_option maxHeartbeats 4000000
namespace K5
open PySem PySem.Spec PyProof.Rows L2 Evl Xl SX Mi
section
variable {P : Program} {w : World} {K : PySem.W.Frag} {mg : Str → Option Value} {base : Heap} {f : Addr} {fd : FuncData}
def nfL (t : Addr) (sign kind named : Str) (outer : V) (wi : Addr) (binder : V) (level : Int) : List (Str × V) :=
  [("place", .ref t), ("sign", .str sign), ("kind", .str kind), ("named", .str named), ("outer", outer), ("within", .ref wi), ("binder", binder), ("level", .int level)]
structure NodeC (K : PySem.W.Frag) (mg : Str → Option Value) (C : Addr) : Prop where
  cl : Cls K C
  mgC : mg "Node" = some (.ref C)
  n1 : NoAttr K C "place"
  n2 : NoAttr K C "sign"
  n3 : NoAttr K C "kind"
  n4 : NoAttr K C "named"
  n5 : NoAttr K C "outer"
  n6 : NoAttr K C "within"
  n7 : NoAttr K C "binder"
  n8 : NoAttr K C "level"
  eq : Xq.EqC K C
theorem upd_over {H : Hp} {a b : Addr} {o1 o2 u : HO} (h : a ≠ b) : upd (upd (upd H a o1) b u) a o2 = upd (upd H b u) a o2 := by
  funext c
  unfold upd
  by_cases h1 : c = a
  · simp [h1]
  · simp [h1]
/-- who stands around it, and how deep it stands then -/
def OutV (C : Addr) (H : Hp) (ov : V) (lv : Int) : Prop := (ov = .non ∧ lv = 1) ∨ ∃ (oa dx : Addr) (fs : List (Str × V)) (l : Int), ov = .ref oa ∧ H oa = some (.ins C dx fs) ∧ fs.lookup ("level" : Str) = some (.int l) ∧ lv = l + 1
def spNode (C : Addr) : Sp := fun vs H Q _ => ∃ (p dx t : Addr) (sg : Str) (ov : V) (lv : Int), vs = [.ref p, .ref t, .str sg, ov] ∧ H p = some (.ins C dx []) ∧ OutV C H ov lv ∧ (∀ oa, ov = .ref oa → oa ≠ p) ∧
  ∀ wi, H wi = none → Q .non (upd (upd H wi (.lst [])) p (.ins C dx (nfL t sg sg (Str.ofString "") ov wi .non lv)))
abbrev sNode : Stmt := inClass (top 19) 0
theorem scNode : FnScope ["self", "place", "sign", "outer"] ["self", "place", "sign", "outer"] (C8.fnScope sNode) := C8.fnScope_by (by decide +kernel)
theorem ok_node {C : Addr} (F : C8.Fun K "__init__" "Node.__init__" sNode f fd) (T : NodeC K mg C) (M : Mk K C f) (b : Binds K fd ["self", "place", "sign", "outer"] []) : C8.Mak P w K mg base 1 "Node" C (spNode C) [] := by
  refine C8.mak0 M T.mgC F b .nil scNode (fun vs H Q E h => by obtain ⟨p, dx, t, sg, ov, lv, rfl, _⟩ := h; rfl) (fun cdv A outer s H vs Q E hr h => ?_)
  obtain ⟨p, dx, t, sg, ov, lv, rfl, hp, ho, hne, k⟩ := h
  refine ⟨_, pss_cons (ps_fld (pv 0) (pv 1) rfl) (pss_cons (ps_fld (pv 0) (pv 2) rfl) (pss_cons (ps_fld (pv 0) (pv 2) rfl) (pss_cons (ps_fld (pv 0) pe_str rfl) (pss_cons (ps_fld (pv 0) (pv 3) rfl)
    (pss_cons (ps_fld (pv 0) (pe_lst pa_nil) rfl) (pss_cons (ps_fld (pv 0) pe_non rfl) (pss_one (ps_fld (pv 0) (pe_ifExp (pt_cmp (pc_isN (pv 3))) pe_int (pe_op op_add (pe_fld (pv 3) rfl) pe_int)) rfl)))))))), ?_⟩
  refine ⟨_, rfl, _, rfl, p, C, dx, [], rfl, hp, T.cl, T.n1, (by show 0 < 1000; decide), ?_⟩
  refine ⟨_, rfl, _, rfl, p, C, dx, _, rfl, upd_same, T.cl, T.n2, (by show 1 < 1000; decide), ?_⟩
  refine ⟨_, rfl, _, rfl, p, C, dx, _, rfl, upd_same, T.cl, T.n3, (by show 2 < 1000; decide), ?_⟩
  refine ⟨_, rfl, p, C, dx, _, rfl, upd_same, T.cl, T.n4, (by show 3 < 1000; decide), ?_⟩
  refine ⟨_, rfl, _, rfl, p, C, dx, _, rfl, upd_same, T.cl, T.n5, (by show 4 < 1000; decide), ?_⟩
  refine ⟨(by show 0 ≤ sizeLine; decide), fun wi hwi => ?_⟩
  have hp2 : p ≠ wi := fun z => by rw [z, upd_same] at hwi; cases hwi
  refine ⟨_, rfl, p, C, dx, _, rfl, (upd_ne hp2).trans upd_same, T.cl, T.n6, (by show 5 < 1000; decide), ?_⟩
  refine ⟨_, rfl, p, C, dx, _, rfl, upd_same, T.cl, T.n7, (by show 6 < 1000; decide), ?_⟩
  have hw' : H wi = none := (upd_ne hp2.symm).symm.trans ((upd_ne hp2.symm).symm.trans ((upd_ne hp2.symm).symm.trans ((upd_ne hp2.symm).symm.trans ((upd_ne hp2.symm).symm.trans hwi))))
  have fin : ∀ (G : Hp), G = upd (upd (upd (upd (upd (upd (upd (upd (upd H p (.ins C dx [("place", .ref t)])) p (.ins C dx [("place", .ref t), ("sign", .str sg)])) p (.ins C dx [("place", .ref t), ("sign", .str sg), ("kind", .str sg)])) p (.ins C dx [("place", .ref t), ("sign", .str sg), ("kind", .str sg), ("named", .str (Str.ofString ""))])) p (.ins C dx [("place", .ref t), ("sign", .str sg), ("kind", .str sg), ("named", .str (Str.ofString "")), ("outer", ov)])) wi (.lst [])) p (.ins C dx [("place", .ref t), ("sign", .str sg), ("kind", .str sg), ("named", .str (Str.ofString "")), ("outer", ov), ("within", .ref wi)])) p (.ins C dx [("place", .ref t), ("sign", .str sg), ("kind", .str sg), ("named", .str (Str.ofString "")), ("outer", ov), ("within", .ref wi), ("binder", .non)])) p (.ins C dx (nfL t sg sg (Str.ofString "") ov wi .non lv)) → Q .non G := by
    intro G hG
    have e : G = upd (upd H wi (.lst [])) p (.ins C dx (nfL t sg sg (Str.ofString "") ov wi .non lv)) := by
      rw [hG]
      funext c
      unfold upd
      by_cases h1 : c = p
      · simp [h1]
      · simp [h1]
    rw [e]
    exact k wi hw'
  rcases ho with ⟨rfl, rfl⟩ | ⟨oa, dx2, fs, l, rfl, h1, h2, rfl⟩
  · exact ⟨_, rfl, true, rfl, ⟨_, rfl, p, C, dx, _, rfl, upd_same, T.cl, T.n8, (by show 7 < 1000; decide), fin _ rfl⟩⟩
  · have ne := hne oa rfl
    have nw : oa ≠ wi := fun z => by
      rw [z, hw'] at h1
      cases h1
    refine ⟨_, rfl, false, rfl, ⟨_, rfl, oa, C, dx2, fs, _, rfl, ?_, T.cl, T.n8, h2, ⟨l, 1, rfl, rfl, _, rfl, p, C, dx, _, rfl, upd_same, T.cl, T.n8, (by show 7 < 1000; decide), fin _ rfl⟩⟩⟩
    unfold upd
    simp [ne, nw, h1]
end
end K5
set_option Elab.async false
set_option linter.all false
set_option maxRecDepth 100000
set_option maxHeartbeats 4000000
namespace K5
open PySem PySem.Spec PyProof.Rows L2 Evl Xl SX Mi
theorem ex_put {H H2 : Hp} {p : Addr} {o : HO} (h : H p = none) (e : Ex H H2) : Ex H (upd H2 p o) := by
  intro c u hu
  have ne : c ≠ p := fun z => by rw [z, h] at hu; cases hu
  rw [upd_ne ne]
  exact e c u hu
theorem ev_fld {K : PySem.W.Frag} {ta : TE} {σ : L2.St} {H : Hp} {f : Str} {a C dx : Addr} {fs : List (Str × V)} {v : V} (h : Ev ta σ H (.ref a)) (ha : H a = some (.ins C dx fs)) (hc : Cls K C) (hn : NoAttr K C f) (hv : fs.lookup f = some v) : Ev (tFld K ta f) σ H v :=
  fun H1 e Q q => h H1 e _ fun H2 e2 => ⟨a, C, dx, fs, v, rfl, e2 _ _ (e _ _ ha), hc, hn, hv, q H2 e2⟩
theorem q_fld {K : PySem.W.Frag} {ta te : TE} {σ : L2.St} {H : Hp} {f : Str} {a C dx : Addr} {fs : List (Str × V)} {v : V} {D : Ends} {tz : TS} (ha : H a = some (.ins C dx fs)) (h0 : Ev ta σ H (.ref a)) (h : Ev te σ H v) (hc : Cls K C) (hn : NoAttr K C f) (hl : fs.length < 1000)
    (k : ∀ H1, Ex H H1 → tz D σ (upd H1 a (.ins C dx (putF f v fs)))) : tSeq (sFld K ta te f) tz D σ H :=
  h H (Ex.refl H) _ fun H1 e1 => h0 H1 e1 _ fun H2 e2 => ⟨a, C, dx, fs, rfl, e2 _ _ (e1 _ _ ha), hc, hn, hl, k H2 (e1.trans e2)⟩
theorem q_two {K : PySem.W.Frag} {te : TE} {σ : L2.St} {H : Hp} {q : Addr} {x y : V} {i j : Nat} {D : Ends} {tz : TS} (h : Ev te σ H (.ref q)) (hq : H q = some (.tup [x, y])) (k : ∀ H1, Ex H H1 → tz D ((σ.set i (some x)).set j (some y)) H1) :
    tSeq (tAsg te (gTup K 2 (gCons (gName i) (gCons (gName j) gNil)))) tz D σ H :=
  h H (Ex.refl H) _ fun H1 e1 => ⟨q, _, rfl, st_of (e1 _ _ hq), rfl, x, [y], rfl, y, [], rfl, rfl, k H1 e1⟩
section
variable {P : Program} {w : World} {K : PySem.W.Frag} {mg : Str → Option Value} {base : Heap} {f : Addr} {fd : FuncData}
theorem outV_up {C : Addr} {H H1 : Hp} {ov : V} {lv : Int} (h : OutV C H ov lv) (e : Ex H H1) : OutV C H1 ov lv := by
  rcases h with h | ⟨oa, dx, fs, l, h1, h2, h3, h4⟩
  · exact .inl h
  · exact .inr ⟨oa, dx, fs, l, h1, e _ _ h2, h3, h4⟩
theorem q_node {C t : Addr} {E : XK} {ta : TA} {σ : L2.St} {H : Hp} {sg : Str} {ov : V} {lv : Int} {i : Nat} {D : Ends} {tz : TS} (h : EvA ta σ H [.ref t, .str sg, ov]) (ho : OutV C H ov lv)
    (k : ∀ (p dx wi : Addr) (H2 : Hp), Ex H H2 → H p = none → H wi = none → p ≠ wi → H2 p = some (.ins C dx (nfL t sg sg (Str.ofString "") ov wi .non lv)) → H2 wi = some (.lst []) → tz D (σ.set i (some (.ref p))) H2) :
    tSeq (tAsg (tMake C (spNode C) [] E ta) (gName i)) tz D σ H := by
  refine h H (Ex.refl H) _ fun H1 e1 p dx hp hdx hne => ?_
  have ex0 : Ex H1 (upd (upd H1 dx (.own p)) p (.ins C dx [])) := ex_put hp (ex_put hdx (Ex.refl H1))
  refine ⟨p, dx, t, sg, ov, lv, rfl, upd_same, outV_up ho (e1.trans ex0), fun oa e z => ?_, fun wi hwi => ⟨rfl, ?_⟩⟩
  · subst z
    rcases ho with ⟨e', _⟩ | ⟨oa, dx2, fs, l, e', h2, _⟩
    · rw [e] at e'; cases e'
    · rw [e] at e'
      cases e'
      have := e1 _ _ h2
      rw [hp] at this
      cases this
  · have hwi1 : H1 wi = none := by
      cases z : H1 wi with
      | none => rfl
      | some o => rw [ex0 _ _ z] at hwi; cases hwi
    have ne : p ≠ wi := fun z => by rw [← z, upd_same] at hwi; cases hwi
    refine k p dx wi _ (e1.trans (ex_put hp (ex_put hwi1 ex0))) (fresh_back e1 hp) (fresh_back e1 hwi1) ne upd_same ?_
    rw [upd_ne ne.symm, upd_same]
theorem ariV_some {x : Wd} : (ariV (S x)).isSome = (ari x).isSome := by
  have e : (S x).cps.toList = x := rfl
  unfold ariV
  rw [e]
  cases ari x <;> rfl
theorem atI_ws {ws : List Wd} {i : Nat} (h : i < ws.length) : atI (ws.map fun x => V.str (S x)) (i : Int) = some (.str (S (ws.getD i []))) := by
  refine atI_nat (j := i) ?_
  simp [List.getD_eq_getElem?_getD, h]
theorem mem_ws {ws : List Wd} {i : Nat} (h : i < ws.length) : ws.getD i [] ∈ ws := by
  have : ws.getD i [] = ws[i] := by simp [List.getD_eq_getElem?_getD, h]
  rw [this]
  exact List.getElem_mem h
def spRead (C : Addr) : Sp := fun vs H Q _ => ∃ (t wd : Addr) (nm : V) (at_ : Nat) (ws : List Wd) (ov : V) (o : Option Nat) (lv : Nat), vs = [.ref t, .ref wd, ov] ∧ H t = some (.tup [nm, .int at_]) ∧ H wd = some (.lst (ws.map fun x => .str (S x))) ∧
  OutV C H ov lv ∧ at_ < ws.length ∧ ws.length ≤ 200 ∧ (∀ x ∈ ws, x.length ≤ 9000) ∧
  (readNd ws at_ o lv = none → ∀ H', Ex H H' → Q .non H') ∧
  ∀ nd, readNd ws at_ o lv = some nd → ∀ (p dx wi : Addr) (H' : Hp), Ex H H' → H p = none → H wi = none → H' p = some (.ins C dx (nfL t (S nd.sign) (S nd.kind) (S nd.named) ov wi .non nd.level)) → H' wi = some (.lst []) → Q (.ref p) H'
theorem scR : FnScope ["place", "words", "outer", "_", "at", "node"] ["place", "words", "outer"] (C8.fnScope (top 22)) := C8.fnScope_by (by decide +kernel)
theorem ok_read {C : Addr} (F : C8.Def K mg "read_node" (top 22) f fd) (b : Binds K fd ["place", "words", "outer"] []) (T : Txt2 K w mg) (N : NodeC K mg C) (cM : C8.Mak P w K mg base 1 "Node" C (spNode C) [])
    (cF : C8.Cal P w K mg base 2 "is_free" spFree []) (cW : C8.Cal P w K mg base 2 "is_written" spWritten []) : C8.Cal P w K mg base 3 "read_node" (spRead C) [] := by
  obtain ⟨pa, ma, ha⟩ := T.ari_
  obtain ⟨pb, mb, hb⟩ := T.binders
  obtain ⟨td, md⟩ := T.deep
  refine C8.cal0 F b .nil scR (fun vs H Q E h => by obtain ⟨t, wd, nm, at_, ws, ov, o, lv, rfl, _⟩ := h; rfl) (fun cdv A outer s H vs Q E hr h => ?_)
  obtain ⟨t, wd, nm, at_, ws, ov, o, lv, rfl, ht, hwd, ho, hat, hlen, hxs, k0, k1⟩ := h
  refine ⟨_, pss_cons (ps_asg (pv 0) (pg_tup (by rfl) (pgs_cons (pg_name (i := 3) scR.nd rfl (.inl rfl)) (pgs_cons (pg_name (i := 4) scR.nd rfl (.inl rfl)) pgs_nil))))
    (pss_cons (ps_set (i := 5) scR.nd rfl (Or.inl rfl) (C8.pe_mk cM hr (by decide) (by rfl) (pa_cons (pv 0) (pa_cons (pe_ix ix_list (pv 1) (pv 4) (fun _ _ => rfl)) (pa_cons (pv 2) pa_nil)))))
    (pss_cons (ps_if (pt_cmpR op_gt (pe_fld (pv 5) rfl) (pe_glob (v := .int 30) (by rfl) md ⟨td, rfl⟩) (nomark _)) (pss_one (ps_ret pe_non)) pss_nil)
    (pss_cons (ps_if (pt_cmpR Xk.op_inK (pe_fld (pv 5) rfl) (pe_glob (v := .ref pa) (by rfl) ma rfl) rfl)
      (pss_cons (ps_if (pt_cmpR op_in_seq (pe_fld (pv 5) rfl) (pe_glob (v := .ref pb) (by rfl) mb rfl) rfl)
        (pss_cons (ps_fld (pv 5) (pe_ifExp (pt_cmpR op_lt (pe_op op_add (pv 4) pe_int) (pe_callB call_len_seq (by rfl) T.len_ boot_len (pa_cons (pv 1) pa_nil)) (nomark _)) (pe_ix ix_list (pv 1) (pe_op op_add (pv 4) pe_int) (fun _ _ => rfl)) pe_str) rfl)
          (pss_one (ps_ret (pe_ifExp (pt_val (C8.pe_c cF hr (by decide) (by rfl) (pa_cons (pe_fld (pv 5) rfl) pa_nil))) (pv 5) pe_non)))) pss_nil)
      (pss_one (ps_ret (pv 5)))) pss_nil)
    (pss_cons (ps_if (pt_val (C8.pe_c cF hr (by decide) (by rfl) (pa_cons (pe_fld (pv 5) rfl) pa_nil))) (pss_cons (ps_fld (pv 5) pe_str rfl) (pss_one (ps_ret (pv 5)))) pss_nil)
    (pss_cons (ps_fld (pv 5) pe_str rfl)
    (pss_one (ps_ret (pe_ifExp (pt_val (C8.pe_c cW hr (by decide) (by rfl) (pa_cons (pe_fld (pv 5) rfl) pa_nil))) (pv 5) pe_non)))))))), ?_⟩
  refine q_two (q := t) (ev_var rfl) ht fun H1 e1 => ?_
  have l0 : (Str.ofString "" : Str) = S [] := by decide
  refine q_node (t := t) (ov := ov) (sg := S (ws.getD at_ [])) (lv := lv) ?_ (outV_up ho e1) fun p dx wi H2 e20 hp0 hw0 hne hp2 hw2 => ?_
  · exact ea_cons (ev_var rfl) (ea_cons (ev_op (ev_var rfl) (ev_var rfl) (rv_ixL (sq_of (e1 _ _ hwd)) (atI_ws hat))) (ea_cons (ev_var rfl) ea_nil))
  have e2 := e1.trans e20
  have hp := fresh_back e1 hp0
  have hw := fresh_back e1 hw0
  have hx := hxs _ (mem_ws hat)
  generalize hsg : ws.getD at_ [] = sg at *
  have hx1 : ∀ i, i < ws.length → (ws.getD i []).length ≤ 9000 := fun i h => hxs _ (mem_ws h)
  have v5 : ∀ {H1 : Hp} {σ : L2.St}, σ = ([some (V.ref t), some (.ref wd), some ov, some nm, some (.int at_), some (.ref p)] : L2.St) → Ev (tVar 5) σ H1 (.ref p) := fun e => ev_var (by rw [e]; rfl)
  refine q_when (b := decide (30 < lv)) (et_is (et_test (ev_op (ev_fld (v5 rfl) hp2 N.cl N.n8 rfl) ev_c rv_I0)) (by simp; norm_cast)) (fun hz H3 e3 => ?_) (fun hz H3 e3 => ?_)
  · refine s_ret ev_c fun H4 e4 => k0 ?_ _ ((e2.trans e3).trans e4)
    unfold readNd
    simp [of_decide_eq_true hz]
  have hb30 : ¬ 30 < lv := of_decide_eq_false hz
  refine q_when (b := (ari sg).isSome) (et_is (et_test (ev_op (ev_fld (v5 rfl) (e3 _ _ hp2) N.cl N.n2 rfl) ev_c fun H1 e1 Q' q => ⟨S sg, pa, ariV, rfl, rfl, ha, q H1 (Ex.refl H1)⟩)) (by show (ariV (S sg)).isSome = _; exact ariV_some)) (fun hb1 H4 e4 => ?_) (fun hb1 H4 e4 => ?_)
  · refine q_when (b := isBind sg) (et_is (et_test (ev_op (ev_fld (v5 rfl) (e4 _ _ (e3 _ _ hp2)) N.cl N.n2 rfl) ev_c (rv_inT (hb H4) rfl rfl))) ?_) (fun hb2 H5 e5 => ?_) (fun hb2 H5 e5 => ?_)
    · show inV (.str (S sg)) [.str (S [102, 117, 110]), .str (S [108, 101, 116])] = _
      show ((S [102, 117, 110] == S sg) || ((S [108, 101, 116] == S sg) || false)) = _
      rw [S_beq_eq, S_beq_eq, Bool.or_false, decide_eq_decide.mpr (eq_comm (a := [102, 117, 110]) (b := sg)), decide_eq_decide.mpr (eq_comm (a := [108, 101, 116]) (b := sg))]
      rfl
    · have hp5 := e5 _ _ (e4 _ _ (e3 _ _ hp2))
      have hw5 := e5 _ _ (e4 _ _ (e3 _ _ hw2))
      have eH5 := ((e2.trans e3).trans e4).trans e5
      generalize hnm : (if at_ + 1 < ws.length then ws.getD (at_ + 1) [] else []) = nmw
      have hnl : nmw.length ≤ 9000 := by
        rw [← hnm]
        split
        · exact hx1 _ (by assumption)
        · simp
      have rd : readNd ws at_ o lv = if okFree nmw then some { mkNd at_ sg o lv with named := nmw } else none := by
        unfold readNd
        simp only [hsg, hb1, hb2, if_neg hb30, if_true, hnm]
      refine q_fld hp5 (v5 rfl) (v := .str (S nmw)) ?_ N.cl N.n4 (by show 8 < 1000; decide) fun H6 e6 => ?_
      · have tt : Ev (tOp (rI0 fun i j => V.int (i + j)) (tVar 4) (tC (V.int 1))) ([some (V.ref t), some (.ref wd), some ov, some nm, some (.int at_), some (.ref p)] : L2.St) H5 (.int ((at_ + 1 : Nat) : Int)) := ev_is (ev_op (ev_var rfl) ev_c rv_I0) (by push_cast; rfl)
        refine ev_if (b := decide (at_ + 1 < ws.length)) (et_is (et_test (ev_op tt (ev_len (ev_var rfl) (sq_of (eH5 _ _ hwd))) rv_I0)) (by simp; norm_cast)) (fun h1 => ?_) (fun h1 => ?_)
        · rw [if_pos (of_decide_eq_true h1)] at hnm
          rw [← hnm]
          exact ev_op (ev_var rfl) tt (rv_ixL (sq_of (eH5 _ _ hwd)) (atI_ws (of_decide_eq_true h1)))
        · rw [if_neg (of_decide_eq_false h1)] at hnm
          rw [← hnm, ← l0]
          exact ev_c
      · have eF : Ex H (upd H6 p (.ins C dx (nfL t (S sg) (S sg) (S nmw) ov wi .non lv))) := ex_put hp (eH5.trans e6)
        have fr : Ev (tCall spFree [] C8.E0 (tCons (tFld K (tVar 5) "named") tNil)) ([some (V.ref t), some (.ref wd), some ov, some nm, some (.int at_), some (.ref p)] : L2.St) (upd H6 p (.ins C dx (nfL t (S sg) (S sg) (S nmw) ov wi .non lv))) (.bl (okFree nmw)) :=
          ev_call (ea_cons (ev_fld (v5 rfl) upd_same N.cl N.n4 rfl) ea_nil) fun H1 e1 Q' q E' => ⟨nmw, rfl, hnl, q⟩
        cases hok : okFree nmw with
        | true =>
          rw [hok] at fr rd
          refine s_ret (ev_if (b := true) (et_B fr) (fun _ => v5 rfl) fun z => by cases z) fun H7 e7 => k1 _ rd p dx wi H7 (eF.trans e7) hp hw (e7 _ _ upd_same) (e7 _ _ ((upd_ne hne.symm).trans (e6 _ _ hw5)))
        | false =>
          rw [hok] at fr rd
          exact s_ret (ev_if (b := false) (et_B fr) (fun z => by cases z) fun _ => ev_c) fun H7 e7 => k0 rd _ (eF.trans e7)
    · refine s_ret (v5 rfl) fun H6 e6 => k1 (mkNd at_ sg o lv) ?_ p dx wi H6 ((((e2.trans e3).trans e4).trans e5).trans e6) hp hw (e6 _ _ (e5 _ _ (e4 _ _ (e3 _ _ hp2)))) (e6 _ _ (e5 _ _ (e4 _ _ (e3 _ _ hw2))))
      unfold readNd
      simp only [hsg, hb1, hb2, if_neg hb30, if_true, Bool.false_eq_true, if_false]
  · have hp4 := e4 _ _ (e3 _ _ hp2)
    have hw4 := e4 _ _ (e3 _ _ hw2)
    have eH4 := (e2.trans e3).trans e4
    refine q_when (b := okFree sg) (et_B (ev_call (ea_cons (ev_fld (v5 rfl) hp4 N.cl N.n2 rfl) ea_nil) fun H1 e1 Q' q E' => ⟨sg, rfl, hx, q⟩)) (fun hb2 H5 e5 => ?_) (fun hb2 H5 e5 => ?_)
    · refine q_fld (e5 _ _ hp4) (v5 rfl) ev_c N.cl N.n3 (by show 8 < 1000; decide) fun H6 e6 => ?_
      have eF : Ex H (upd H6 p (.ins C dx (nfL t (S sg) (S [110, 97, 109, 101]) (S []) ov wi .non lv))) := ex_put hp ((eH4.trans e5).trans e6)
      refine s_ret (v5 rfl) fun H7 e7 => k1 { mkNd at_ sg o lv with kind := [110, 97, 109, 101] } ?_ p dx wi H7 (eF.trans e7) hp hw (e7 _ _ (by rw [show S [110, 97, 109, 101] = ("name" : Str) by decide]; exact upd_same)) (e7 _ _ ((upd_ne hne.symm).trans (e6 _ _ (e5 _ _ hw4))))
      unfold readNd
      simp only [hsg, hb1, hb2, if_neg hb30, if_true, Bool.false_eq_true, if_false]
    · refine q_fld (e5 _ _ hp4) (v5 rfl) ev_c N.cl N.n3 (by show 8 < 1000; decide) fun H6 e6 => ?_
      have eF : Ex H (upd H6 p (.ins C dx (nfL t (S sg) (Str.ofString "number") (S []) ov wi .non lv))) := ex_put hp ((eH4.trans e5).trans e6)
      have fr : Ev (tCall spWritten [] C8.E0 (tCons (tFld K (tVar 5) "sign") tNil)) ([some (V.ref t), some (.ref wd), some ov, some nm, some (.int at_), some (.ref p)] : L2.St) (upd H6 p (.ins C dx (nfL t (S sg) (Str.ofString "number") (S []) ov wi .non lv))) (.bl (written sg)) :=
        ev_call (ea_cons (ev_fld (v5 rfl) upd_same N.cl N.n2 rfl) ea_nil) fun H1 e1 Q' q E' => ⟨sg, rfl, hx, q⟩
      have rd : readNd ws at_ o lv = if written sg then some { mkNd at_ sg o lv with kind := [110, 117, 109, 98, 101, 114] } else none := by
        unfold readNd
        simp only [hsg, hb1, hb2, if_neg hb30, Bool.false_eq_true, if_false]
      cases hok : written sg with
      | true =>
        rw [hok] at fr rd
        exact s_ret (ev_if (b := true) (et_B fr) (fun _ => v5 rfl) fun z => by cases z) fun H7 e7 => k1 _ rd p dx wi H7 (eF.trans e7) hp hw (e7 _ _ (by show _ = some (HO.ins C dx (nfL t (S sg) (S [110, 117, 109, 98, 101, 114]) (S []) ov wi .non lv)); rw [show S [110, 117, 109, 98, 101, 114] = ("number" : Str) by decide]; exact upd_same)) (e7 _ _ ((upd_ne hne.symm).trans (e6 _ _ (e5 _ _ hw4))))
      | false =>
        rw [hok] at fr rd
        exact s_ret (ev_if (b := false) (et_B fr) (fun z => by cases z) fun _ => ev_c) fun H7 e7 => k0 rd _ (eF.trans e7)
end
end K5
set_option Elab.async false
set_option linter.all false
set_option maxRecDepth 100000
set_option maxHeartbeats 4000000
namespace K5
open PySem PySem.Spec PyProof.Rows L2 Evl Xl SX Mi
structure Rec where
  a : Addr
  dx : Addr
  t : Addr
  w : Addr
  deriving Inhabited
def R (rs : List Rec) (i : Nat) : Rec := rs.getD i default
def oref (rs : List Rec) : Option Nat → V
  | none => .non
  | some i => .ref (R rs i).a
def refs (rs : List Rec) (is : List Nat) : List V := is.map fun i => .ref (R rs i).a
structure NodeAt (C : Addr) (nm : V) (rs : List Rec) (H : Hp) (r : Rec) (n : Nd) : Prop where
  ins : H r.a = some (.ins C r.dx (nfL r.t (S n.sign) (S n.kind) (S n.named) (oref rs n.outer) r.w (oref rs n.binder) n.level))
  tup : H r.t = some (.tup [nm, .int n.at_])
  win : H r.w = some (.lst (refs rs n.within))
structure Nds (C : Addr) (nm : V) (rs : List Rec) (ns : List Nd) (H : Hp) : Prop where
  len : rs.length = ns.length
  at_ : ∀ i, i < ns.length → NodeAt C nm rs H (R rs i) (nth ns i)
  ia : ∀ i j, i < ns.length → j < ns.length → (R rs i).a = (R rs j).a → i = j
  iw : ∀ i j, i < ns.length → j < ns.length → (R rs i).w = (R rs j).w → i = j
theorem nth_set {ns : List Nd} {i j : Nat} {x : Nd} (h : j < ns.length) : nth (ns.set i x) j = if i = j then x else nth ns j := by
  unfold nth
  by_cases e : i = j
  · subst e; simp [List.getD_eq_getElem?_getD, h]
  · simp [List.getD_eq_getElem?_getD, e]
def Keep (T : Addr → Prop) (H H' : Hp) : Prop := ∀ c o, ¬ T c → H c = some o → H' c = some o
theorem Keep.refl (T : Addr → Prop) (H : Hp) : Keep T H H := fun _ _ _ h => h
theorem Keep.ex {T : Addr → Prop} {H H1 H2 : Hp} (h : Keep T H H1) (e : Ex H1 H2) : Keep T H H2 := fun c o n hc => e _ _ (h c o n hc)
theorem Keep.of {T : Addr → Prop} {H H1 : Hp} (e : Ex H H1) : Keep T H H1 := fun c o n hc => e _ _ hc
theorem Keep.put {T : Addr → Prop} {H H1 : Hp} {p : Addr} {o : HO} (h : Keep T H H1) (t : T p) : Keep T H (upd H1 p o) := fun c u n hc => by
  have ne : c ≠ p := fun z => n (z ▸ t)
  rw [upd_ne ne]
  exact h c u n hc
theorem Keep.trans {T : Addr → Prop} {H H1 H2 : Hp} (h : Keep T H H1) (h2 : Keep T H1 H2) : Keep T H H2 := fun c u n hc => h2 c u n (h c u n hc)
theorem Nds.ex {C : Addr} {nm : V} {rs : List Rec} {ns : List Nd} {H H' : Hp} (h : Nds C nm rs ns H) (e : Ex H H') : Nds C nm rs ns H' :=
  ⟨h.len, fun i hi => ⟨e _ _ (h.at_ i hi).ins, e _ _ (h.at_ i hi).tup, e _ _ (h.at_ i hi).win⟩, h.ia, h.iw⟩
/-- another list may change -/
theorem Nds.other {C : Addr} {nm : V} {rs : List Rec} {ns : List Nd} {H : Hp} {p : Addr} {xs ys : List V} (h : Nds C nm rs ns H) (hp : H p = some (.lst xs)) (hw : ∀ i, i < ns.length → (R rs i).w ≠ p) : Nds C nm rs ns (upd H p (.lst ys)) := by
  refine ⟨h.len, fun i hi => ?_, h.ia, h.iw⟩
  have n := h.at_ i hi
  have n1 : (R rs i).a ≠ p := fun z => by have := n.ins; rw [z, hp] at this; cases this
  have n2 : (R rs i).t ≠ p := fun z => by have := n.tup; rw [z, hp] at this; cases this
  exact ⟨(upd_ne n1).trans n.ins, (upd_ne n2).trans n.tup, (upd_ne (hw i hi)).trans n.win⟩
/-- the within of one node -/
theorem Nds.setW {C : Addr} {nm : V} {rs : List Rec} {ns : List Nd} {H : Hp} {o : Nat} (is : List Nat) (h : Nds C nm rs ns H) (ho : o < ns.length) :
    Nds C nm rs (ns.set o { nth ns o with within := is }) (upd H (R rs o).w (.lst (refs rs is))) := by
  have hl : (ns.set o { nth ns o with within := is }).length = ns.length := by simp
  refine ⟨by rw [hl]; exact h.len, fun i hi => ?_, fun i j hi hj => h.ia i j (hl ▸ hi) (hl ▸ hj), fun i j hi hj => h.iw i j (hl ▸ hi) (hl ▸ hj)⟩
  rw [hl] at hi
  have n := h.at_ i hi
  have n1 : (R rs i).a ≠ (R rs o).w := fun z => by have := n.ins; rw [z, (h.at_ o ho).win] at this; cases this
  have n2 : (R rs i).t ≠ (R rs o).w := fun z => by have := n.tup; rw [z, (h.at_ o ho).win] at this; cases this
  rw [nth_set hi]
  by_cases e : o = i
  · subst e
    rw [if_pos rfl]
    exact ⟨(upd_ne n1).trans n.ins, (upd_ne n2).trans n.tup, upd_same⟩
  · rw [if_neg e]
    exact ⟨(upd_ne n1).trans n.ins, (upd_ne n2).trans n.tup, (upd_ne fun z => e (h.iw i o hi ho z).symm).trans n.win⟩
/-- fields of one node -/
theorem Nds.setN {C : Addr} {nm : V} {rs : List Rec} {ns : List Nd} {H : Hp} {o : Nat} (x : Nd) (h : Nds C nm rs ns H) (ho : o < ns.length) (hw : x.within = (nth ns o).within) (ha : x.at_ = (nth ns o).at_) :
    Nds C nm rs (ns.set o x) (upd H (R rs o).a (.ins C (R rs o).dx (nfL (R rs o).t (S x.sign) (S x.kind) (S x.named) (oref rs x.outer) (R rs o).w (oref rs x.binder) x.level))) := by
  have hl : (ns.set o x).length = ns.length := by simp
  refine ⟨by rw [hl]; exact h.len, fun i hi => ?_, fun i j hi hj => h.ia i j (hl ▸ hi) (hl ▸ hj), fun i j hi hj => h.iw i j (hl ▸ hi) (hl ▸ hj)⟩
  rw [hl] at hi
  have n := h.at_ i hi
  have n2 : (R rs i).t ≠ (R rs o).a := fun z => by have := n.tup; rw [z, (h.at_ o ho).ins] at this; cases this
  have n3 : (R rs i).w ≠ (R rs o).a := fun z => by have := n.win; rw [z, (h.at_ o ho).ins] at this; cases this
  rw [nth_set hi]
  by_cases e : o = i
  · subst e
    rw [if_pos rfl]
    exact ⟨upd_same, by rw [ha]; exact (upd_ne n2).trans n.tup, by rw [hw]; exact (upd_ne n3).trans n.win⟩
  · rw [if_neg e]
    exact ⟨(upd_ne fun z => e (h.ia i o hi ho z).symm).trans n.ins, (upd_ne n2).trans n.tup, (upd_ne n3).trans n.win⟩
theorem et_truL {K : PySem.W.Frag} {ta : TE} {σ : L2.St} {H : Hp} {p : Addr} {xs : List V} (h : Ev ta σ H (.ref p)) (hp : SqL K H p xs) : EvT (fun σ H Q => ta σ H fun x H' => ∃ k, TruV K x H' k ∧ Q k H') σ H (!xs.isEmpty) :=
  fun H1 e Q q => h H1 e _ fun H2 e2 => ⟨_, .inl ⟨xs, hp.imp (ex_rd (e.trans e2)) id, rfl⟩, q H2 e2⟩
theorem ev_kget {K : PySem.W.Frag} {w : World} {to : TE} {ta : TA} {σ : L2.St} {H : Hp} {p : Addr} {g : Str → Option V} {z : Str} {d : V} (h : Ev to σ H (.ref p)) (hg : Xk.KHas K w p g) (ha : EvA ta σ H [.str z, d]) : Ev (Xk.tKGet K w to ta) σ H ((g z).getD d) :=
  fun H1 e Q q => h H1 e _ fun H2 e2 => ⟨p, g, rfl, hg, ha H2 (e.trans e2) _ fun H3 e3 => ⟨z, d, rfl, q H3 (e2.trans e3)⟩⟩
theorem ariV_get {x : Wd} : (ariV (S x)).getD (.int 0) = .int (((ari x).getD 0 : Nat) : Int) := by
  have e : (S x).cps.toList = x := rfl
  unfold ariV
  rw [e]
  cases ari x <;> rfl
theorem atI_last {α : Type} {xs : List α} {v : α} (h : xs.getLast? = some v) : atI xs (-1) = some v := by
  have hn : xs ≠ [] := fun z => by rw [z] at h; cases h
  have h1 : 1 ≤ xs.length := by cases xs with | nil => exact absurd rfl hn | cons a b => simp
  have hx : ixN xs.length (-1) = some (xs.length - 1) := by
    unfold ixN
    simp
    omega
  unfold atI
  rw [hx]
  show xs[xs.length - 1]? = some v
  rw [← List.getLast?_eq_getElem?]
  exact h
theorem getLast_refs {rs : List Rec} {is : List Nat} : (refs rs is).getLast? = is.getLast?.map fun i => .ref (R rs i).a := by
  unfold refs
  rw [List.getLast?_map]
theorem s_pop {K : PySem.W.Frag} {ta : TE} {σ : L2.St} {H : Hp} {p : Addr} {xs : List V} {y : V} {D : Ends} (h : Ev ta σ H (.ref p)) (hp : H p = some (.lst xs)) (hy : xs.getLast? = some y) (k : ∀ H1, Ex H H1 → D.nx σ (upd H1 p (.lst xs.dropLast))) : tDrop (tBM0 K "list" rPop ta) D σ H :=
  h H (Ex.refl H) _ fun H1 e1 => ⟨.inl ⟨rfl, _, SqL.of (e1 _ _ hp)⟩, p, xs, y, rfl, rfl, e1 _ _ hp, by rw [← List.getLast?_eq_getElem?]; exact hy, k H1 e1⟩
end K5
set_option Elab.async false
set_option linter.all false
set_option maxRecDepth 100000
set_option maxHeartbeats 4000000
namespace K5
open PySem PySem.Spec PyProof.Rows L2 Evl Xl SX Mi
theorem set_nth {ns : List Nd} {o j : Nat} {x : Nd} (hj : j < ns.length) (ho : o < ns.length) (p : Nd → Prop) (h1 : j ≠ o → p (nth ns j)) (h2 : j = o → p x) : p (nth (ns.set o x) j) := by
  rw [nth_set hj]
  by_cases e : o = j
  · rw [if_pos e]; exact h2 e.symm
  · rw [if_neg e]; exact h1 fun z => e z.symm
theorem addIn_len {ns : List Nd} {wt : List Nat} {i : Nat} : (addIn ns wt i).length = ns.length := by
  unfold addIn
  split <;> simp
theorem popM_sub {ns : List Nd} : ∀ {f : Nat} {wt : List Nat}, ∀ j ∈ popM ns f wt, j ∈ wt := by
  intro f
  induction f with
  | zero => intro wt j h; exact h
  | succ f ih =>
    intro wt j h
    unfold popM at h
    split at h
    · exact h
    · split at h
      · exact List.dropLast_subset _ (ih j h)
      · exact h
theorem popM_le {ns : List Nd} : ∀ {f : Nat} {wt : List Nat}, (popM ns f wt).length ≤ wt.length := by
  intro f
  induction f with
  | zero => intro wt; exact Nat.le_refl _
  | succ f ih =>
    intro wt
    unfold popM
    split
    · exact Nat.le_refl _
    · split
      · have := @ih wt.dropLast
        have h2 : wt.dropLast.length ≤ wt.length := by simp
        omega
      · exact Nat.le_refl _
section
variable {P : Program} {w : World} {K : PySem.W.Frag} {mg : Str → Option Value} {base : Heap} {f : Addr} {fd : FuncData}
def TW (rs : List Rec) (n : Nat) (wl : Addr) : Addr → Prop := fun c => c = wl ∨ ∃ j, j < n ∧ c = (R rs j).w
def spHang (C : Addr) : Sp := fun vs H Q _ => ∃ (nm : V) (rs : List Rec) (ns : List Nd) (wt : List Nat) (i : Nat) (wl : Addr), vs = [.ref (R rs i).a, .ref wl] ∧ Nds C nm rs ns H ∧ i < ns.length ∧ (∀ j ∈ wt, j < ns.length) ∧ H wl = some (.lst (refs rs wt)) ∧
  (∀ j, j < ns.length → (R rs j).w ≠ wl) ∧ wt.length ≤ 1000 ∧ (∀ j, j < ns.length → (nth ns j).within.length ≤ 1000) ∧
  ∀ H', Nds C nm rs (hangM ns wt i).1 H' → H' wl = some (.lst (refs rs (hangM ns wt i).2)) → Keep (TW rs ns.length wl) H H' → Q .non H'
theorem scH : FnScope ["node", "waiting"] ["node", "waiting"] (C8.fnScope (top 24)) := C8.fnScope_by (by decide +kernel)
theorem ok_hang {C : Addr} (F : C8.Def K mg "hang" (top 24) f fd) (b : Binds K fd ["node", "waiting"] []) (T : Txt2 K w mg) (N : NodeC K mg C) : C8.Cal P w K mg base 1 "hang" (spHang C) [] := by
  obtain ⟨pa, ma, ha⟩ := T.ari_
  refine C8.cal0 F b .nil scH (fun vs H Q E h => by obtain ⟨nm, rs, ns, wt, i, wl, rfl, _⟩ := h; rfl) (fun cdv A outer s H vs Q E hr h => ?_)
  obtain ⟨nm, rs, ns, wt, i, wl, rfl, hN, hi, hwt, hwl, hne, hl1, hl2, k⟩ := h
  refine ⟨_, pss_cut (ps_if (pt_truth (pv 1) (by intro _; rfl)) (pss_one (ps_expr (pe_bm PySem.F.plainAttrs_list PySem.F.slot_list_append PySem.F.type_list_append mt_append (pe_fld (pe_ix ix_list (pv 1) (pe_un un_neg pe_int) (fun _ _ => rfl)) rfl) (pa_cons (pv 0) pa_nil)))) pss_nil)
    (pss_cons (ps_expr (pe_bm PySem.F.plainAttrs_list PySem.F.slot_list_append PySem.F.type_list_append mt_append (pv 1) (pa_cons (pv 0) pa_nil)))
    (pss_one (ps_while PassesOwn.never (pw_and (pt_truth (pv 1) (by intro _; rfl)) (pw_and1 (pt_cmpR op_eq (pe_callB call_len_seq (by rfl) T.len_ boot_len (pa_cons (pe_fld (pe_ix ix_list (pv 1) (pe_un un_neg pe_int) (fun _ _ => rfl)) rfl) pa_nil))
        (Xk.pe_kget (pe_glob (v := .ref pa) (by rfl) ma rfl) (pa_cons (pe_fld (pe_ix ix_list (pv 1) (pe_un un_neg pe_int) (fun _ _ => rfl)) rfl) (pa_cons pe_int pa_nil))) (nomark _)))).pt
      (pss_one (ps_expr (pe_bm0 PySem.F.plainAttrs_list PySem.F.slot_list_pop PySem.F.type_list_pop mt_pop (pv 1))))))), ?_⟩
  have v0 : ∀ {G : Hp}, Ev (tVar 0) (start ["node", "waiting"] [V.ref (R rs i).a, .ref wl]) G (.ref (R rs i).a) := ev_var rfl
  have v1 : ∀ {G : Hp}, Ev (tVar 1) (start ["node", "waiting"] [V.ref (R rs i).a, .ref wl]) G (.ref wl) := ev_var rfl
  refine q_cut (M := fun σ G => σ = start ["node", "waiting"] [V.ref (R rs i).a, .ref wl] ∧ Nds C nm rs (addIn ns wt i) G ∧ G wl = some (.lst (refs rs wt)) ∧ Keep (TW rs ns.length wl) H G) ?_ ?_
  · refine s_when (b := !(refs rs wt).isEmpty) (et_truL v1 (sq_of hwl)) (fun hb H1 e1 => ?_) (fun hb H1 e1 => ?_)
    · cases ho : wt.getLast? with
      | none =>
        rw [List.getLast?_eq_none_iff] at ho
        rw [ho] at hb
        cases hb
      | some o =>
        have ho2 : o < ns.length := hwt o (List.mem_of_getLast? ho)
        have n := (hN.at_ o ho2).ins
        have nw := (hN.at_ o ho2).win
        have lt : (refs rs wt).getLast? = some (.ref (R rs o).a) := by rw [getLast_refs, ho]; rfl
        refine s_app (e1 _ _ nw) (ev_fld (ev_op v1 (ev_un ev_c ru_neg) (rv_ixL (sq_of (e1 _ _ hwl)) (atI_last lt))) (e1 _ _ n) N.cl N.n6 rfl) v0 (by unfold refs; rw [List.length_map]; have := hl2 o ho2; omega) fun H2 e2 => ⟨rfl, ?_, ?_, ?_⟩
        · have := (hN.ex (e1.trans e2)).setW ((nth ns o).within ++ [i]) ho2
          unfold addIn
          rw [ho]
          unfold refs at this ⊢
          rw [List.map_append] at this
          exact this
        · exact (upd_ne (hne o ho2).symm).trans ((e1.trans e2) _ _ hwl)
        · exact (Keep.of (e1.trans e2)).put (.inr ⟨o, ho2, rfl⟩)
    · have hz : wt = [] := by
        cases wt with
        | nil => rfl
        | cons a b => cases hb
      subst hz
      exact ⟨rfl, hN.ex e1, e1 _ _ hwl, Keep.of e1⟩
  · rintro σ' G ⟨rfl, hG, hGw, hK⟩
    have hlen : (addIn ns wt i).length = ns.length := addIn_len
    have hkeep : ∀ j, j < ns.length → (R rs j).w ≠ wl := hne
    refine q_app hGw v1 v0 (by unfold refs; rw [List.length_map]; omega) fun H1 e1 => ?_
    have hG1 : Nds C nm rs (addIn ns wt i) (upd H1 wl (.lst (refs rs wt ++ [.ref (R rs i).a]))) := (hG.ex e1).other (e1 _ _ hGw) fun j hj => hne j (hlen ▸ hj)
    have hK1 : Keep (TW rs ns.length wl) H (upd H1 wl (.lst (refs rs wt ++ [.ref (R rs i).a]))) := (hK.ex e1).put (.inl rfl)
    refine s_while (fun m σ G => σ = start ["node", "waiting"] [V.ref (R rs i).a, .ref wl] ∧ ∃ (wt' : List Nat) (f' : Nat), m = wt'.length ∧ wt'.length ≤ f' ∧ popM (addIn ns wt i) f' wt' = (hangM ns wt i).2 ∧ (∀ j ∈ wt', j < ns.length) ∧
      Nds C nm rs (addIn ns wt i) G ∧ G wl = some (.lst (refs rs wt')) ∧ Keep (TW rs ns.length wl) H G) (wt.length + 1) ?_ ?_
    · refine ⟨rfl, wt ++ [i], wt.length + 1, by simp, by simp, rfl, fun j hj => ?_, hG1, ?_, hK1⟩
      · rw [List.mem_append] at hj
        rcases hj with hj | hj
        · exact hwt j hj
        · simp at hj; rw [hj]; exact hi
      · rw [upd_same]
        unfold refs
        rw [List.map_append]
        rfl
    · rintro m σ' G' ⟨rfl, wt', f', rfl, hf, hp, hj, hN', hw', hK'⟩
      cases ho : wt'.getLast? with
      | none =>
        have hz : wt' = [] := by rwa [List.getLast?_eq_none_iff] at ho
        subst hz
        refine ⟨false, et_is (et_and (b := false) (et_truL v1 (sq_of hw')) fun z => (by cases z)) rfl, (fun z => (by cases z)), fun _ H2 e2 => k H2 (hN'.ex e2) ?_ (hK'.ex e2)⟩
        have : popM (addIn ns wt i) f' [] = [] := by cases f' <;> rfl
        rw [← hp, this]
        exact e2 _ _ hw'
      | some o =>
        have ho2 : o < ns.length := hj o (List.mem_of_getLast? ho)
        have n := (hN'.at_ o (hlen ▸ ho2)).ins
        have nw := (hN'.at_ o (hlen ▸ ho2)).win
        have lt : (refs rs wt').getLast? = some (.ref (R rs o).a) := by rw [getLast_refs, ho]; rfl
        have he : wt' ≠ [] := fun z => by rw [z] at ho; cases ho
        have hne' : (!(refs rs wt').isEmpty) = true := by
          cases wt' with
          | nil => exact absurd rfl he
          | cons a b => rfl
        have fu : decide ((V.int ((refs rs (nth (addIn ns wt i) o).within).length : Int)) = V.int (((ari (nth (addIn ns wt i) o).kind).getD 0 : Nat) : Int)) = full (addIn ns wt i) o := by
          unfold full
          refine decide_eq_decide.mpr ⟨fun z => ?_, fun z => ?_⟩
          · have z2 := V.int.inj z
            unfold refs at z2
            rw [List.length_map] at z2
            exact Int.ofNat.inj z2
          · unfold refs
            rw [List.length_map, z]
        have vx : Ev (tOp (rIxL K) (tVar 1) (tUn (rU fun i => V.int (-i)) (tC (V.int 1)))) (start ["node", "waiting"] [V.ref (R rs i).a, .ref wl]) G' (.ref (R rs o).a) := ev_op v1 (ev_un ev_c ru_neg) (rv_ixL (sq_of hw') (atI_last lt))
        refine ⟨full (addIn ns wt i) o, et_is (et_and (b := full (addIn ns wt i) o) (et_truL v1 (sq_of hw')) fun _ => et_is (et_test (ev_op (ev_len (ev_fld vx n N.cl N.n6 rfl) (sq_of nw)) (ev_is (ev_kget ev_c ha (ea_cons (ev_fld vx n N.cl N.n3 rfl) (ea_cons ev_c ea_nil))) ariV_get) (rv_eq rfl))) fu) (by rw [hne']; rfl), fun hb H2 e2 => ?_, fun hb H2 e2 => k H2 (hN'.ex e2) ?_ (hK'.ex e2)⟩
        · refine ⟨_, fun _ _ z => z, s_pop v1 (e2 _ _ hw') lt fun H3 e3 => ?_⟩
          have h1 : 1 ≤ wt'.length := by cases wt' with | nil => exact absurd rfl he | cons a b => simp
          refine ⟨wt'.dropLast.length, by rw [List.length_dropLast]; omega, rfl, wt'.dropLast, f' - 1, rfl, by rw [List.length_dropLast]; omega, ?_, fun j hj' => hj j (List.dropLast_subset _ hj'), (hN'.ex (e2.trans e3)).other ((e2.trans e3) _ _ hw') fun j hj' => hne j (hlen ▸ hj'), ?_, (hK'.ex (e2.trans e3)).put (.inl rfl)⟩
          · rw [← hp]
            obtain ⟨g, rfl⟩ : ∃ g, f' = g + 1 := ⟨f' - 1, by omega⟩
            conv => rhs; unfold popM
            rw [ho]
            simp only [hb, if_true, Nat.add_sub_cancel]
          · rw [upd_same]
            unfold refs
            rw [← List.map_dropLast]
        · have : popM (addIn ns wt i) f' wt' = wt' := by
            cases f' with
            | zero => rfl
            | succ g =>
              unfold popM
              rw [ho]
              simp only [hb, Bool.false_eq_true, if_false]
          rw [← hp, this]
          exact e2 _ _ hw'
end
end K5
set_option Elab.async false
set_option linter.all false
set_option maxRecDepth 100000
set_option maxHeartbeats 4000000
namespace K5
open PySem PySem.Spec PyProof.Rows L2 Evl Xl SX Mi
theorem s_fld {K : PySem.W.Frag} {ta te : TE} {σ : L2.St} {H : Hp} {f : Str} {a C dx : Addr} {fs : List (Str × V)} {v : V} {D : Ends} (ha : H a = some (.ins C dx fs)) (h0 : Ev ta σ H (.ref a)) (h : Ev te σ H v) (hc : Cls K C) (hn : NoAttr K C f) (hl : fs.length < 1000)
    (k : ∀ H1, Ex H H1 → D.nx σ (upd H1 a (.ins C dx (putF f v fs)))) : sFld K ta te f D σ H :=
  h H (Ex.refl H) _ fun H1 e1 => h0 H1 e1 _ fun H2 e2 => ⟨a, C, dx, fs, rfl, e2 _ _ (e1 _ _ ha), hc, hn, hl, k H2 (e1.trans e2)⟩
theorem climb_non {ns : List Nd} {sg : Wd} {m b : Nat} : climb ns sg m b none = none := by cases m <;> rfl
theorem et_nn {te : TE} {σ : L2.St} {H : Hp} (h : Ev te σ H .non) : EvT (tB (tNotN te)) σ H false := et_B (ev_is (ev_notN h) (by simp))
theorem et_nr {te : TE} {σ : L2.St} {H : Hp} {a : Addr} (h : Ev te σ H (.ref a)) : EvT (tB (tNotN te)) σ H true := et_B (ev_is (ev_notN h) (by simp))
theorem et_in {te : TE} {σ : L2.St} {H : Hp} (h : Ev te σ H .non) : EvT (tB (tIsN te)) σ H true := et_B (ev_is (ev_isN h) (by simp))
theorem et_ir {te : TE} {σ : L2.St} {H : Hp} {a : Addr} (h : Ev te σ H (.ref a)) : EvT (tB (tIsN te)) σ H false := et_B (ev_is (ev_isN h) (by simp))
section
variable {P : Program} {w : World} {K : PySem.W.Frag} {mg : Str → Option Value} {base : Heap} {f : Addr} {fd : FuncData}
structure Wf (ns : List Nd) : Prop where
  out : ∀ i, i < ns.length → ∀ o, (nth ns i).outer = some o → o < i ∧ (nth ns o).within ≠ []
  win : ∀ i, i < ns.length → ∀ j ∈ (nth ns i).within, j < ns.length
def spBind (C : Addr) : Sp := fun vs H Q _ => ∃ (nm : V) (rs : List Rec) (ns : List Nd) (i : Nat), vs = [.ref (R rs i).a] ∧ Nds C nm rs ns H ∧ Wf ns ∧ i < ns.length ∧ (nth ns i).binder = none ∧
  ∀ H', Nds C nm rs (ns.set i (bindM ns i)) H' → Keep (fun c => c = (R rs i).a) H H' → Q .non H'
theorem scB : FnScope ["node", "below", "above"] ["node"] (C8.fnScope (top 25)) := C8.fnScope_by (by decide +kernel)
theorem ok_bind {C : Addr} (F : C8.Def K mg "bind" (top 25) f fd) (b : Binds K fd ["node"] []) (T : Txt2 K w mg) (N : NodeC K mg C) : C8.Cal P w K mg base 1 "bind" (spBind C) [] := by
  refine C8.cal0 F b .nil scB (fun vs H Q E h => by obtain ⟨nm, rs, ns, i, rfl, _⟩ := h; rfl) (fun cdv A outer s H vs Q E hr h => ?_)
  obtain ⟨nm, rs, ns, i, rfl, hN, hW, hi, hb, k⟩ := h
  refine ⟨_, pss_cons (ps_set (i := 1) scB.nd rfl (Or.inl rfl) (pv 0)) (pss_cons (ps_set (i := 2) scB.nd rfl (Or.inl rfl) (pe_fld (pv 0) rfl))
    (pss_cons (ps_while PassesOwn.never (pw_and (pt_cmp (pc_notN (pv 2))) (pw_and1 (pt_cmp (pc_isN (pe_fld (pv 0) rfl))))).pt
      (pss_cons (ps_if (pw_and (pt_cmpR op_eq (pe_fld (pv 2) rfl) (pe_fld (pv 0) rfl) (nomark _)) (pw_and1 (pt_cmpR (Xq.op_eqI (Nat.lt_of_le_of_lt (Nat.le_trans (Nat.le_add_right _ _) (Nat.le_add_right _ _)) hr.un)) (pe_ix ix_list (pe_fld (pv 2) rfl) (pe_un un_neg pe_int) (fun _ _ => rfl)) (pv 1) (nomark _)))).pt
          (pss_one (ps_fld (pv 0) (pv 2) rfl)) pss_nil)
        (pss_cons (ps_set (i := 1) scB.nd rfl (Or.inl rfl) (pv 2)) (pss_one (ps_set (i := 2) scB.nd rfl (Or.inl rfl) (pe_fld (pv 2) rfl))))))
    (pss_one (ps_if (pt_cmp (pc_isN (pe_fld (pv 0) rfl))) (pss_one (ps_fld (pv 0) pe_str rfl)) pss_nil)))), ?_⟩
  have hbind : bindM ns i = match climb ns (nth ns i).sign (i + 1) i (nth ns i).outer with
      | some a => { nth ns i with binder := some a }
      | none => { nth ns i with kind := [112, 97, 114, 116] } := rfl
  generalize hc : climb ns (nth ns i).sign (i + 1) i (nth ns i).outer = res at hbind
  have n0 := (hN.at_ i hi).ins
  have v0 : ∀ {x y : Option V} {G : Hp}, Ev (tVar 0) ([some (.ref (R rs i).a), x, y] : L2.St) G (.ref (R rs i).a) := ev_var rfl
  have v1 : ∀ {x : Option V} {y : V} {z : Option V} {G : Hp}, Ev (tVar 1) ([x, some y, z] : L2.St) G y := ev_var rfl
  have v2 : ∀ {x y : Option V} {z : V} {G : Hp}, Ev (tVar 2) ([x, y, some z] : L2.St) G z := ev_var rfl
  refine q_asg (v := .ref (R rs i).a) (ev_var rfl) fun H1 e1 => ?_
  refine q_asg (v := oref rs (nth ns i).outer) (ev_fld (ev_var rfl) (e1 _ _ n0) N.cl N.n5 rfl) fun H2 e2 => ?_
  refine q_while (fun m σ G =>
      (∃ (b : Nat) (oa : Option Nat), b < ns.length ∧ σ = [some (.ref (R rs i).a), some (.ref (R rs b).a), some (oref rs oa)] ∧ Nds C nm rs ns G ∧ Keep (fun c => c = (R rs i).a) H G ∧ climb ns (nth ns i).sign m b oa = res ∧ ∀ a, oa = some a → a < m ∧ a < ns.length ∧ (nth ns a).within ≠ []) ∨
      (∃ (a : Nat) (x y : V), m = 0 ∧ σ = [some (.ref (R rs i).a), some x, some y] ∧ res = some a ∧ Nds C nm rs (ns.set i { nth ns i with binder := some a }) G ∧ Keep (fun c => c = (R rs i).a) H G)) (i + 1) ?_ ?_
  · exact .inl ⟨i, _, hi, rfl, hN.ex (e1.trans e2), Keep.of (e1.trans e2), hc, fun a e => by
      have := hW.out i hi a e
      exact ⟨by omega, by omega, this.2⟩⟩
  · rintro m σ' G (⟨b, oa, hbl, rfl, hG, hK, hcl, hoa⟩ | ⟨a, x, y, rfl, rfl, hres, hG, hK⟩)
    · have n := (hG.at_ i hi).ins
      cases oa with
      | none =>
        rw [climb_non] at hcl
        subst hcl
        refine ⟨false, et_is (et_and (b := false) (et_nn v2) (fun z => (by cases z))) rfl, (fun z => (by cases z)), fun _ H3 e3 => ?_⟩
        refine s_when (b := true) (et_in (ev_fld v0 (e3 _ _ n) N.cl N.n7 (by rw [hb]; rfl))) (fun _ H4 e4 => ?_) (fun z => (by cases z))
        refine s_fld (e4 _ _ (e3 _ _ n)) v0 ev_c N.cl N.n3 (by show 8 < 1000; decide) fun H5 e5 => ?_
        have g := (hG.ex ((e3.trans e4).trans e5)).setN { nth ns i with kind := [112, 97, 114, 116] } hi rfl rfl
        rw [show S [112, 97, 114, 116] = ("part" : Str) by decide] at g
        refine k _ ?_ ((hK.ex ((e3.trans e4).trans e5)).put rfl)
        rw [hbind]
        exact g
      | some a =>
        obtain ⟨ha1, ha2, ha3⟩ := hoa a rfl
        obtain ⟨g, rfl⟩ : ∃ g, m = g + 1 := ⟨m - 1, by omega⟩
        have na := (hG.at_ a ha2).ins
        have nw := (hG.at_ a ha2).win
        have nb := (hG.at_ b hbl).ins
        obtain ⟨x, hx⟩ : ∃ x, (nth ns a).within.getLast? = some x := by
          cases z : (nth ns a).within.getLast? with
          | none => exact absurd (List.getLast?_eq_none_iff.mp z) ha3
          | some x => exact ⟨x, rfl⟩
        have hxl : x < ns.length := hW.win a ha2 x (List.mem_of_getLast? hx)
        have nx := (hG.at_ x hxl).ins
        have lt : (refs rs (nth ns a).within).getLast? = some (.ref (R rs x).a) := by rw [getLast_refs, hx]; rfl
        have hd : decide ((R rs x).a = (R rs b).a) = decide ((nth ns a).within.getLast? = some b) := by
          rw [hx]
          refine decide_eq_decide.mpr ⟨fun z => ?_, fun z => ?_⟩
          · rw [hG.ia x b hxl hbl z]
          · cases z; rfl
        refine ⟨true, et_is (et_and (b := true) (et_nr (a := (R rs a).a) v2) (fun _ => et_in (ev_fld v0 n N.cl N.n7 (by rw [hb]; rfl)))) rfl, (fun _ H3 e3 => ?_), (fun z => (by cases z))⟩
        refine ⟨_, fun _ _ z => z, ?_⟩
        refine q_when (b := decide ((nth ns a).named = (nth ns i).sign) && decide ((nth ns a).within.getLast? = some b)) (et_and (et_is (et_test (ev_op (ev_fld v2 (e3 _ _ na) N.cl N.n4 rfl) (ev_fld v0 (e3 _ _ n) N.cl N.n2 rfl) (rv_eq rfl))) S_eqc)
          fun _ => et_is (et_test (ev_op (ev_op (ev_fld v2 (e3 _ _ na) N.cl N.n6 rfl) (ev_un ev_c ru_neg) (rv_ixL (sq_of (e3 _ _ nw)) (atI_last lt))) v1 fun G1 d1 Q' q => ⟨_, _, C, _, _, _, _, rfl, rfl, d1 _ _ (e3 _ _ nx), d1 _ _ (e3 _ _ nb), N.eq, q G1 (Ex.refl G1)⟩)) hd)
          (fun hm H4 e4 => ?_) (fun hm H4 e4 => ?_)
        · have hm2 : (nth ns a).named = (nth ns i).sign ∧ (nth ns a).within.getLast? = some b := by simpa using hm
          have hr2 : res = some a := by
            rw [← hcl]
            unfold climb
            rw [if_pos hm2]
          refine s_fld (e4 _ _ (e3 _ _ n)) v0 v2 N.cl N.n7 (by show 8 < 1000; decide) fun H5 e5 => ?_
          have gg := (hG.ex ((e3.trans e4).trans e5)).setN { nth ns i with binder := some a } hi rfl rfl
          have kk := (hK.ex ((e3.trans e4).trans e5)).put (o := .ins C (R rs i).dx (nfL (R rs i).t (S (nth ns i).sign) (S (nth ns i).kind) (S (nth ns i).named) (oref rs (nth ns i).outer) (R rs i).w (oref rs (some a)) (nth ns i).level)) (rfl : (R rs i).a = (R rs i).a)
          have na2 := (gg.at_ a (by simp; exact ha2)).ins
          refine q_asg v2 fun H6 e6 => ?_
          refine s_asg (ev_fld v2 (e6 _ _ na2) N.cl N.n5 rfl) fun H7 e7 => ?_
          exact ⟨0, by omega, .inr ⟨a, _, _, rfl, rfl, hr2, gg.ex (e6.trans e7), kk.ex (e6.trans e7)⟩⟩
        · have hm2 : ¬ ((nth ns a).named = (nth ns i).sign ∧ (nth ns a).within.getLast? = some b) := by simpa using hm
          refine q_asg v2 fun H6 e6 => ?_
          refine s_asg (ev_fld v2 (e6 _ _ (e4 _ _ (e3 _ _ na))) N.cl N.n5 rfl) fun H7 e7 => ?_
          have eg := ((e3.trans e4).trans e6).trans e7
          refine ⟨g, by omega, .inl ⟨a, (nth ns a).outer, ha2, rfl, hG.ex eg, hK.ex eg, ?_, fun c hc' => ?_⟩⟩
          · rw [← hcl]
            conv => rhs; unfold climb
            rw [if_neg hm2]
          · have := hW.out a ha2 c hc'
            exact ⟨by omega, by omega, this.2⟩
    · have n := (hG.at_ i (by simp; exact hi)).ins
      have hs : (nth (ns.set i { nth ns i with binder := some a }) i).binder = some a := by rw [nth_set hi, if_pos rfl]
      refine ⟨false, et_is (et_and (b := false) (et_B (ev_is (ev_notN v2) (show V.bl (!decide (y = .non)) = V.bl (!decide (y = .non)) from rfl))) (fun _ => et_ir (a := (R rs a).a) (ev_fld v0 n N.cl N.n7 (by rw [hs]; rfl)))) (Bool.and_false _), (fun z => (by cases z)), fun _ H3 e3 => ?_⟩
      refine s_when (b := false) (et_ir (a := (R rs a).a) (ev_fld v0 (e3 _ _ n) N.cl N.n7 (by rw [hs]; rfl))) (fun z => (by cases z)) (fun _ H4 e4 => ?_)
      refine k _ ?_ (hK.ex (e3.trans e4))
      rw [hbind, hres]
      exact hG.ex (e3.trans e4)
end
end K5
set_option Elab.async false
set_option linter.all false
set_option maxRecDepth 100000
set_option maxHeartbeats 4000000
namespace K5
open PySem PySem.Spec PyProof.Rows L2 Evl Xl SX Mi
theorem R_app {rs : List Rec} {r : Rec} {i : Nat} (h : i < rs.length) : R (rs ++ [r]) i = R rs i := by
  unfold R
  simp [List.getD_eq_getElem?_getD, List.getElem?_append_left h]
theorem R_new {rs : List Rec} {r : Rec} : R (rs ++ [r]) rs.length = r := by
  unfold R
  simp [List.getD_eq_getElem?_getD]
theorem nth_app {ns : List Nd} {r : Nd} {i : Nat} (h : i < ns.length) : nth (ns ++ [r]) i = nth ns i := by
  unfold nth
  simp [List.getD_eq_getElem?_getD, List.getElem?_append_left h]
theorem nth_new {ns : List Nd} {r : Nd} : nth (ns ++ [r]) ns.length = r := by
  unfold nth
  simp [List.getD_eq_getElem?_getD]
theorem refs_app {rs : List Rec} {r : Rec} {is : List Nat} (h : ∀ j ∈ is, j < rs.length) : refs (rs ++ [r]) is = refs rs is := by
  unfold refs
  refine List.map_congr_left fun j hj => ?_
  rw [R_app (h j hj)]
theorem oref_app {rs : List Rec} {r : Rec} {o : Option Nat} (h : ∀ j, o = some j → j < rs.length) : oref (rs ++ [r]) o = oref rs o := by
  cases o with
  | none => rfl
  | some j => show V.ref _ = V.ref _; rw [R_app (h j rfl)]
theorem Nds.add {C : Addr} {nm : V} {rs : List Rec} {ns : List Nd} {G : Hp} (h : Nds C nm rs ns G) (wf : Wf ns) (bn : ∀ i, i < ns.length → (nth ns i).binder = none) (x : Nd) (r : Rec) (hx : NodeAt C nm rs G r x) (xo : ∀ j, x.outer = some j → j < ns.length) (xb : x.binder = none) (xw : x.within = [])
    (fa : ∀ i, i < ns.length → (R rs i).a ≠ r.a) (fw : ∀ i, i < ns.length → (R rs i).w ≠ r.w) : Nds C nm (rs ++ [r]) (ns ++ [x]) G := by
  have hl := h.len
  have spl : ∀ i, i < (ns ++ [x]).length → i < ns.length ∨ i = ns.length := fun i hi => by simp at hi; omega
  have rn : R (rs ++ [r]) ns.length = r := by rw [← hl]; exact R_new
  refine ⟨by simp [hl], fun i hi => ?_, fun i j hi hj e => ?_, fun i j hi hj e => ?_⟩
  · rcases spl i hi with hi | rfl
    · rw [R_app (hl ▸ hi), nth_app hi]
      have n := h.at_ i hi
      refine ⟨?_, n.tup, ?_⟩
      · rw [oref_app fun j e => by have := wf.out i hi j e; omega, oref_app fun j e => by rw [bn i hi] at e; cases e]
        exact n.ins
      · rw [refs_app fun j e => by have := wf.win i hi j e; omega]
        exact n.win
    · rw [rn, nth_new]
      refine ⟨?_, hx.tup, ?_⟩
      · rw [oref_app fun j e => by have := xo j e; omega, oref_app fun j e => by rw [xb] at e; cases e]
        exact hx.ins
      · rw [refs_app fun j e => by rw [xw] at e; cases e]
        exact hx.win
  · rcases spl i hi with hi | rfl <;> rcases spl j hj with hj | rfl
    · rw [R_app (hl ▸ hi), R_app (hl ▸ hj)] at e
      exact h.ia i j hi hj e
    · rw [R_app (hl ▸ hi), rn] at e
      exact absurd e (fa i hi)
    · rw [R_app (i := j) (hl ▸ hj), rn] at e
      exact absurd e.symm (fa j hj)
    · rfl
  · rcases spl i hi with hi | rfl <;> rcases spl j hj with hj | rfl
    · rw [R_app (hl ▸ hi), R_app (hl ▸ hj)] at e
      exact h.iw i j hi hj e
    · rw [R_app (hl ▸ hi), rn] at e
      exact absurd e (fw i hi)
    · rw [R_app (i := j) (hl ▸ hj), rn] at e
      exact absurd e.symm (fw j hj)
    · rfl
/-- what hang leaves of each node -/
theorem addIn_nth {ns : List Nd} {wt : List Nat} {i j : Nat} (hj : j < ns.length) : nth (addIn ns wt i) j = if wt.getLast? = some j then { nth ns j with within := (nth ns j).within ++ [i] } else nth ns j := by
  unfold addIn
  cases h : wt.getLast? with
  | none => rfl
  | some o =>
    show nth (ns.set o { nth ns o with within := (nth ns o).within ++ [i] }) j = _
    rw [nth_set hj]
    by_cases e : o = j
    · subst e; simp
    · rw [if_neg e, if_neg (fun z => e (Option.some.inj z))]
theorem wf_hang {ns : List Nd} {wt : List Nat} {x : Nd} (wf : Wf ns) (hw : ∀ j ∈ wt, j < ns.length) (xo : x.outer = wt.getLast?) (xw : x.within = []) : Wf (addIn (ns ++ [x]) wt ns.length) := by
  have hl : (addIn (ns ++ [x]) wt ns.length).length = ns.length + 1 := by rw [addIn_len]; simp
  have lst : ∀ o, wt.getLast? = some o → o < ns.length := fun o e => hw o (List.mem_of_getLast? e)
  have ou : ∀ j, j < ns.length + 1 → (nth (addIn (ns ++ [x]) wt ns.length) j).outer = (nth (ns ++ [x]) j).outer := fun j hj => by
    rw [addIn_nth (by simp; exact hj)]
    split <;> rfl
  have wi : ∀ j, j < ns.length + 1 → (nth (addIn (ns ++ [x]) wt ns.length) j).within = if wt.getLast? = some j then (nth (ns ++ [x]) j).within ++ [ns.length] else (nth (ns ++ [x]) j).within := fun j hj => by
    rw [addIn_nth (by simp; exact hj)]
    split <;> rfl
  refine ⟨fun i hi o e => ?_, fun i hi j hj => ?_⟩
  · rw [hl] at hi
    rw [ou i hi] at e
    by_cases z : i < ns.length
    · rw [nth_app z] at e
      have := wf.out i z o e
      refine ⟨this.1, ?_⟩
      rw [wi o (by omega)]
      split
      · simp
      · rw [nth_app (by omega)]; exact this.2
    · have z2 : i = ns.length := by omega
      subst z2
      rw [nth_new, xo] at e
      have := lst o e
      refine ⟨this, ?_⟩
      rw [wi o (by omega), if_pos e]
      simp
  · rw [hl] at hi ⊢
    rw [wi i hi] at hj
    have base : ∀ j ∈ (nth (ns ++ [x]) i).within, j < ns.length + 1 := fun j hj => by
      by_cases z : i < ns.length
      · rw [nth_app z] at hj
        have := wf.win i z j hj
        omega
      · have z2 : i = ns.length := by omega
        subst z2
        rw [nth_new, xw] at hj
        cases hj
    split at hj
    · rw [List.mem_append] at hj
      rcases hj with hj | hj
      · exact base j hj
      · simp at hj; omega
    · exact base j hj
theorem nameOk_len {x : Wd} (h : nameOk x = true) : x.length ≤ 8 := by
  unfold nameOk at h
  simp at h
  omega
theorem readNd_facts {ws : List Wd} {at_ : Nat} {o : Option Nat} {lv : Nat} {nd : Nd} (h : readNd ws at_ o lv = some nd) : nd.named.length ≤ 8 ∧ nd.outer = o ∧ nd.within = [] ∧ nd.binder = none ∧ nd.at_ = at_ ∧ nd.level = lv := by
  have fr : ∀ x : Wd, okFree x = true → x.length ≤ 8 := fun x hx => by
    unfold okFree at hx
    simp only [Bool.and_eq_true] at hx
    exact nameOk_len hx.1.1
  unfold readNd at h
  simp only at h
  generalize (if at_ + 1 < ws.length then ws.getD (at_ + 1) [] else []) = nmw at h
  split at h
  · cases h
  · split at h
    · split at h
      · split at h
        · cases h
          exact ⟨fr _ (by assumption), rfl, rfl, rfl, rfl, rfl⟩
        · cases h
      · cases h
        exact ⟨by simp [mkNd], rfl, rfl, rfl, rfl, rfl⟩
    · split at h
      · cases h
        exact ⟨by simp [mkNd], rfl, rfl, rfl, rfl, rfl⟩
      · split at h
        · cases h
          exact ⟨by simp [mkNd], rfl, rfl, rfl, rfl, rfl⟩
        · cases h
end K5
set_option Elab.async false
set_option linter.all false
set_option maxRecDepth 100000
set_option maxHeartbeats 4000000
namespace K5
open PySem PySem.Spec PyProof.Rows L2 Evl Xl SX Mi
theorem bindTo_len : ∀ {k : Nat} {ns : List Nd}, (bindTo k ns).length = ns.length := by
  intro k
  induction k with
  | zero => intro ns; rfl
  | succ k ih =>
    intro ns
    unfold bindTo
    simp only
    split
    · rw [List.length_set]; exact ih
    · exact ih
theorem bindM_same {ns : List Nd} {i : Nat} : (Mi.bindM ns i).outer = (nth ns i).outer ∧ (Mi.bindM ns i).within = (nth ns i).within ∧ (Mi.bindM ns i).at_ = (nth ns i).at_ ∧ (Mi.bindM ns i).named = (nth ns i).named ∧ (Mi.bindM ns i).sign = (nth ns i).sign := by
  unfold Mi.bindM
  split <;> exact ⟨rfl, rfl, rfl, rfl, rfl⟩
theorem bindTo_over : ∀ {k j : Nat} {ns : List Nd}, k ≤ j → j < ns.length → nth (bindTo k ns) j = nth ns j := by
  intro k
  induction k with
  | zero => intro j ns _ _; rfl
  | succ k ih =>
    intro j ns h hj
    unfold bindTo
    simp only
    split
    · rw [nth_set (by rw [bindTo_len]; exact hj), if_neg (by omega)]
      exact ih (by omega) hj
    · exact ih (by omega) hj
theorem bindTo_same : ∀ {k j : Nat} {ns : List Nd}, j < ns.length → (nth (bindTo k ns) j).outer = (nth ns j).outer ∧ (nth (bindTo k ns) j).within = (nth ns j).within ∧ (nth (bindTo k ns) j).at_ = (nth ns j).at_ ∧ (nth (bindTo k ns) j).named = (nth ns j).named ∧ (nth (bindTo k ns) j).sign = (nth ns j).sign := by
  intro k
  induction k with
  | zero => intro j ns _; exact ⟨rfl, rfl, rfl, rfl, rfl⟩
  | succ k ih =>
    intro j ns hj
    unfold bindTo
    simp only
    split
    · rw [nth_set (by rw [bindTo_len]; exact hj)]
      by_cases e : k = j
      · subst e
        rw [if_pos rfl]
        have := @bindM_same (bindTo k ns) k
        have h2 := @ih k ns hj
        exact ⟨this.1.trans h2.1, this.2.1.trans h2.2.1, this.2.2.1.trans h2.2.2.1, this.2.2.2.1.trans h2.2.2.2.1, this.2.2.2.2.trans h2.2.2.2.2⟩
      · rw [if_neg e]
        exact ih hj
    · exact ih hj
theorem wf_bindTo {ns : List Nd} {k : Nat} (wf : Wf ns) : Wf (bindTo k ns) := by
  refine ⟨fun i hi o e => ?_, fun i hi j hj => ?_⟩
  · rw [bindTo_len] at hi
    rw [(bindTo_same hi).1] at e
    have := wf.out i hi o e
    refine ⟨this.1, ?_⟩
    rw [(bindTo_same (by omega)).2.1]
    exact this.2
  · rw [bindTo_len] at hi ⊢
    rw [(bindTo_same hi).2.1] at hj
    exact wf.win i hi j hj
theorem q_read {C t0 wd : Addr} {E : XK} {ta tb tc td : TE} {σ : L2.St} {H : Hp} {nm ov : V} {at_ lv : Nat} {o : Option Nat} {ws : List Wd} {i : Nat} {D : Ends} {tz : TS} (ha : Ev ta σ H nm) (hb : Ev tb σ H (.int at_)) (hc : Ev tc σ H (.ref wd)) (hd : Ev td σ H ov)
    (hwd : H wd = some (.lst (ws.map fun x => .str (S x)))) (ho : OutV C H ov lv) (hat : at_ < ws.length) (hlen : ws.length ≤ 200) (hxs : ∀ x ∈ ws, x.length ≤ 9000)
    (k0 : readNd ws at_ o lv = none → ∀ H1, Ex H H1 → tz D (σ.set i (some .non)) H1)
    (k1 : ∀ nd, readNd ws at_ o lv = some nd → ∀ (p dx t wi : Addr) (H1 : Hp), Ex H H1 → H p = none → H wi = none → H1 p = some (.ins C dx (nfL t (S nd.sign) (S nd.kind) (S nd.named) ov wi .non nd.level)) → H1 t = some (.tup [nm, .int at_]) → H1 wi = some (.lst []) → tz D (σ.set i (some (.ref p))) H1) :
    tSeq (tAsg (tCall (spRead C) [] E (tCons (tTup (tCons ta (tCons tb tNil))) (tCons tc (tCons td tNil)))) (gName i)) tz D σ H := by
  refine ha H (Ex.refl H) _ fun H1 e1 => hb H1 e1 _ fun H2 e2 => ⟨by show 2 ≤ sizeLine; rw [sizeLine_eq]; omega, fun t ht => ?_⟩
  have x0 : Ex H (upd H2 t (.tup [nm, .int at_])) := (e1.trans e2).trans (ex_put ht (Ex.refl H2))
  have st : (upd H2 t (.tup [nm, .int at_])) t = some (.tup [nm, .int at_]) := upd_same
  refine hc _ x0 _ fun H3 e3 => hd H3 (x0.trans e3) _ fun H4 e4 => ?_
  have x4 := (x0.trans e3).trans e4
  exact ⟨t, wd, nm, at_, ws, ov, o, lv, rfl, e4 _ _ (e3 _ _ st), x4 _ _ hwd, outV_up ho x4, hat, hlen, hxs, fun z H5 e5 => k0 z H5 (x4.trans e5), fun nd z p dx wi H5 e5 hp hw h1 h2 => k1 nd z p dx t wi H5 (x4.trans e5) (fresh_back x4 hp) (fresh_back x4 hw) h1 (e5 _ _ (e4 _ _ (e3 _ _ st))) h2⟩
theorem q_callD {sp : Sp} {dvs vs : List V} {E : XK} {ta : TA} {σ : L2.St} {H : Hp} {D : Ends} {tz : TS} (h : EvA ta σ H vs) (k : ∀ H1, Ex H H1 → sp (vs ++ dvs) H1 (fun _ H2 => tz D σ H2) E) : tSeq (tDrop (tCall sp dvs E ta)) tz D σ H :=
  h H (Ex.refl H) _ fun H1 e1 => k H1 e1
theorem s_callD {sp : Sp} {dvs vs : List V} {E : XK} {ta : TA} {σ : L2.St} {H : Hp} {D : Ends} (h : EvA ta σ H vs) (k : ∀ H1, Ex H H1 → sp (vs ++ dvs) H1 (fun _ H2 => D.nx σ H2) E) : tDrop (tCall sp dvs E ta) D σ H :=
  h H (Ex.refl H) _ fun H1 e1 => k H1 e1
theorem et_truS {K : PySem.W.Frag} {ta : TE} {σ : L2.St} {H : Hp} {x : Wd} (h : Ev ta σ H (.str (S x))) (hl : x.length ≤ 9000) : EvT (fun σ H Q => ta σ H fun x H' => ∃ k, TruV K x H' k ∧ Q k H') σ H (decide (x ≠ [])) :=
  fun H1 e Q q => h H1 e _ fun H2 e2 => ⟨decide (x ≠ []), ⟨by rw [S_len, sizeLine_eq]; omega, by rw [S_len]; cases x <;> simp; omega⟩, q H2 e2⟩
/-- the state of the reading at a turn -/
structure LI (C : Addr) (nm : V) (ws : List Wd) (res : Option (List Nd × List Nat)) (H0 G : Hp) (nl wl : Addr) (rs : List Rec) (ns : List Nd) (wt : List Nat) (at_ : Nat) : Prop where
  fu : ∃ f, ws.length - at_ < f ∧ loopM ws f ns wt at_ = res
  nds : Nds C nm rs ns G
  wf : Wf ns
  bn : ∀ i, i < ns.length → (nth ns i).binder = none
  wti : ∀ j ∈ wt, j < ns.length
  wtl : wt.length ≤ ns.length
  wil : ∀ i, i < ns.length → (nth ns i).within.length ≤ ns.length
  nle : ns.length ≤ at_
  atl : at_ ≤ ws.length + 1
  gn : G nl = some (.lst (refs rs (List.range ns.length)))
  gw : G wl = some (.lst (refs rs wt))
  ne : nl ≠ wl
  nw : ∀ i, i < ns.length → (R rs i).w ≠ wl ∧ (R rs i).w ≠ nl
  ex : Ex H0 G
  f1 : H0 nl = none
  f2 : H0 wl = none
  f3 : ∀ i, i < ns.length → H0 (R rs i).a = none ∧ H0 (R rs i).w = none
theorem LI.outV {C : Addr} {nm : V} {ws : List Wd} {res : Option (List Nd × List Nat)} {H0 G : Hp} {nl wl : Addr} {rs : List Rec} {ns : List Nd} {wt : List Nat} {at_ : Nat} (h : LI C nm ws res H0 G nl wl rs ns wt at_) : OutV C G (oref rs wt.getLast?) (lvlOf ns wt.getLast? : Nat) := by
  cases z : wt.getLast? with
  | none => exact .inl ⟨rfl, rfl⟩
  | some o =>
    have ho := h.wti o (List.mem_of_getLast? z)
    exact .inr ⟨(R rs o).a, _, _, (nth ns o).level, rfl, (h.nds.at_ o ho).ins, rfl, by show ((_ + 1 : Nat) : Int) = _; push_cast; rfl⟩
section
variable {P : Program} {w : World} {K : PySem.W.Frag} {mg : Str → Option Value} {base : Heap} {f : Addr} {fd : FuncData}
def spExpr (C : Addr) : Sp := fun vs H Q _ => ∃ (wd : Addr) (nm : V) (ws : List Wd) (start : Nat), vs = [nm, .ref wd, .int start] ∧ H wd = some (.lst (ws.map fun x => .str (S x))) ∧ ws.length ≤ 200 ∧ (∀ x ∈ ws, x.length ≤ 9000) ∧ start ≤ ws.length + 1 ∧
  (readExpr ws start = none → ∀ H', Ex H H' → Q .non H') ∧
  ∀ ns, readExpr ws start = some ns → ∀ (rs : List Rec) (nl : Addr) (H' : Hp), Ex H H' → Nds C nm rs ns H' → H nl = none → H' nl = some (.lst (refs rs (List.range ns.length))) → (∀ i, i < ns.length → H (R rs i).w = none) → ns.length ≤ 300 → Q (.ref nl) H'
abbrev nE : List Str := ["name", "words", "start", "nodes", "waiting", "at", "outer", "node"]
theorem scE : FnScope nE ["name", "words", "start"] (C8.fnScope (top 21)) := C8.fnScope_by (by decide +kernel)
theorem ok_expr {C : Addr} (F : C8.Def K mg "read_expression" (top 21) f fd) (b : Binds K fd ["name", "words", "start"] []) (T : Txt2 K w mg) (N : NodeC K mg C) (cR : C8.Cal P w K mg base 3 "read_node" (spRead C) []) (cH : C8.Cal P w K mg base 1 "hang" (spHang C) [])
    (cB : C8.Cal P w K mg base 1 "bind" (spBind C) []) : C8.Cal P w K mg base 4 "read_expression" (spExpr C) [] := by
  refine C8.cal0 F b .nil scE (fun vs H Q E h => by obtain ⟨wd, nm, ws, start, rfl, _⟩ := h; rfl) (fun cdv A outer s H vs Q E hr h => ?_)
  obtain ⟨wd, nm, ws, start, rfl, hwd, hlen, hxs, hst, k0, k1⟩ := h
  refine ⟨_, pss_cons (ps_set (i := 3) scE.nd rfl (Or.inl rfl) (pe_lst pa_nil)) (pss_cons (ps_set (i := 4) scE.nd rfl (Or.inl rfl) (pe_lst pa_nil)) (pss_cons (ps_set (i := 5) scE.nd rfl (Or.inl rfl) (pv 2))
    (pss_cons (ps_while PassesOwn.never (pt_cmpR op_lt (pv 5) (pe_callB call_len_seq (by rfl) T.len_ boot_len (pa_cons (pv 1) pa_nil)) (nomark _))
      (pss_cons (ps_set (i := 6) scE.nd rfl (Or.inl rfl) (pe_ifExp (pt_truth (pv 4) (by intro _; rfl)) (pe_ix ix_list (pv 4) (pe_un un_neg pe_int) (fun _ _ => rfl)) pe_non))
      (pss_cons (ps_set (i := 7) scE.nd rfl (Or.inl rfl) (C8.pe_c cR hr (by decide) (by rfl) (pa_cons (pe_tup (pa_cons (pv 0) (pa_cons (pv 5) pa_nil))) (pa_cons (pv 1) (pa_cons (pv 6) pa_nil)))))
      (pss_cons (ps_if (pw_or (pt_cmp (pc_isN (pv 7))) (pw_or1 (pw_and (pt_truth (pv 3) (by intro _; rfl)) (pw_and1 (pt_cmp (pc_isN (pv 6))))).pt)).pt (pss_one (ps_ret pe_non)) pss_nil)
      (pss_cons (ps_expr (pe_bm PySem.F.plainAttrs_list PySem.F.slot_list_append PySem.F.type_list_append mt_append (pv 3) (pa_cons (pv 7) pa_nil)))
      (pss_cons (ps_expr (C8.pe_c cH hr (by decide) (by rfl) (pa_cons (pv 7) (pa_cons (pv 4) pa_nil))))
      (pss_one (ps_set (i := 5) scE.nd rfl (Or.inl rfl) (pe_ifExp (pt_truth (pe_fld (pv 7) rfl) (by intro _; rfl)) (pe_op op_add (pv 5) pe_int) (pe_op op_add (pv 5) pe_int))))))))))
    (pss_cons (ps_if (pw_or (pt_truth (pv 4) (by intro _; rfl)) (pw_or1 (pt_not (pt_truth (pv 3) (by intro _; rfl))))).pt (pss_one (ps_ret pe_non)) pss_nil)
    (pss_cons (ps_for PassesOwn.never rfl (pi_list (pv 3)) (pg_name (i := 7) scE.nd rfl (Or.inl rfl)) (pss_one (ps_if (pt_cmpR op_eq (pe_fld (pv 7) rfl) pe_str (nomark _)) (pss_one (ps_expr (C8.pe_c cB hr (by decide) (by rfl) (pa_cons (pv 7) pa_nil)))) pss_nil)))
    (pss_one (ps_ret (pv 3))))))))
    , ?_⟩
  refine ⟨(by show 0 ≤ sizeLine; decide), fun nl hnl => ?_⟩
  refine ⟨(by show 0 ≤ sizeLine; decide), fun wl hwl0 => ?_⟩
  have nwl : nl ≠ wl := fun z => by rw [← z, upd_same] at hwl0; cases hwl0
  have hwl : H wl = none := (upd_ne nwl.symm).symm.trans hwl0
  have ex0 : Ex H (upd (upd H nl (.lst [])) wl (.lst [])) := ex_put hwl (ex_put hnl (Ex.refl H))
  refine q_asg (v := .int start) (ev_var rfl) fun H1 e1 => ?_
  generalize hres : loopM ws (ws.length + 1) [] [] start = res
  have hres0 : res = none → readExpr ws start = none := fun z => by
    unfold readExpr
    rw [hres, z]
  have hres1 : ∀ ns wt, res = some (ns, wt) → readExpr ws start = if wt ≠ [] ∨ ns = [] then none else some (bindTo ns.length ns) := fun ns wt z => by
    unfold readExpr
    rw [hres, z]
  refine q_while (fun m σ G => ∃ (rs : List Rec) (ns : List Nd) (wt : List Nat) (at_ : Nat) (x y : Option V), m = ws.length + 1 - at_ ∧ σ = [some nm, some (.ref wd), some (.int start), some (.ref nl), some (.ref wl), some (.int at_), x, y] ∧ LI C nm ws res H G nl wl rs ns wt at_) (ws.length + 1 - start) ?_ ?_
  · refine ⟨[], [], [], start, none, none, rfl, rfl, ?_⟩
    exact { fu := ⟨ws.length + 1, by omega, hres⟩
            nds := ⟨rfl, fun i hi => by simp at hi, fun i j hi => by simp at hi, fun i j hi => by simp at hi⟩
            wf := ⟨fun i hi => by simp at hi, fun i hi => by simp at hi⟩
            bn := fun i hi => by simp at hi
            wti := fun j hj => by cases hj
            wtl := Nat.le_refl _
            wil := fun i hi => by simp at hi
            nle := Nat.zero_le _
            atl := hst
            gn := e1 _ _ ((upd_ne nwl).trans upd_same)
            gw := e1 _ _ upd_same
            ne := nwl
            nw := fun i hi => by simp at hi
            ex := ex0.trans e1
            f1 := hnl
            f2 := hwl
            f3 := fun i hi => by simp at hi }
  · rintro m σ' G ⟨rs, ns, wt, at_, x, y, rfl, rfl, h⟩
    have hl := h.nds.len
    have gwd := h.ex _ _ hwd
    refine ⟨decide (at_ < ws.length), et_is (et_test (ev_op (ev_var rfl) (ev_len (ev_var rfl) (sq_of gwd)) rv_I0)) (by simp), fun hb H2 e2 => ?_, fun hb H2 e2 => ?_⟩
    · have hat : at_ < ws.length := of_decide_eq_true hb
      obtain ⟨fu, hf, hlm⟩ := h.fu
      obtain ⟨g, rfl⟩ : ∃ g, fu = g + 1 := ⟨fu - 1, by omega⟩
      unfold loopM at hlm
      rw [if_pos hat] at hlm
      refine ⟨_, fun _ _ z => z, ?_⟩
      refine q_asg (v := oref rs wt.getLast?) ?_ fun H3 e3 => ?_
      · cases z : wt.getLast? with
        | none =>
          have hz : wt = [] := by rwa [List.getLast?_eq_none_iff] at z
          exact ev_if (b := false) (et_is (et_truL (ev_var rfl) (sq_of (e2 _ _ h.gw))) (by rw [hz]; rfl)) (fun z => by cases z) fun _ => ev_c
        | some o =>
          have he : (!(refs rs wt).isEmpty) = true := by
            cases wt with
            | nil => cases z
            | cons a b => rfl
          exact ev_if (b := true) (et_is (et_truL (ev_var rfl) (sq_of (e2 _ _ h.gw))) he) (fun _ => ev_op (ev_var rfl) (ev_un ev_c ru_neg) (rv_ixL (sq_of (e2 _ _ h.gw)) (atI_last (by rw [getLast_refs, z]; rfl)))) fun z => by cases z
      · have e23 := e2.trans e3
        refine q_read (o := wt.getLast?) (lv := lvlOf ns wt.getLast?) (ov := oref rs wt.getLast?) (at_ := at_) (nm := nm) (wd := wd) (t0 := 0) (ws := ws) (ev_var rfl) (ev_var rfl) (ev_var rfl) (ev_var rfl) (e23 _ _ gwd) (outV_up h.outV e23) hat hlen hxs (fun hrd H4 e4 => ?_) (fun nd hrd p dx t wi H4 e4 hp0 hw0 hp4 ht4 hw4 => ?_)
        · rw [hrd] at hlm
          refine q_when (b := true) (et_is (et_or (a := true) (b := true) (et_in (ev_var rfl)) fun z => (by cases z)) rfl) (fun _ H5 e5 => ?_) (fun z => (by cases z))
          exact s_ret ev_c fun H6 e6 => k0 (hres0 hlm.symm) H6 ((((h.ex.trans e23).trans e4).trans e5).trans e6)
        · rw [hrd] at hlm
          dsimp only at hlm
          obtain ⟨fnm, fou, fwi, fbi, fat, flv⟩ := readNd_facts hrd
          have hp := fresh_back e23 hp0
          have hw := fresh_back e23 hw0
          have e24 := e23.trans e4
          have pne : p ≠ wi := fun z => by rw [z, hw4] at hp4; cases hp4
          have fa : ∀ i, i < ns.length → (R rs i).a ≠ p := fun i hi z => by have := (h.nds.at_ i hi).ins; rw [z, hp] at this; cases this
          have fw : ∀ i, i < ns.length → (R rs i).w ≠ wi := fun i hi z => by have := (h.nds.at_ i hi).win; rw [z, hw] at this; cases this
          have wiwl : wi ≠ wl := fun z => by have := h.gw; rw [← z, hw] at this; cases this
          have winl : wi ≠ nl := fun z => by have := h.gn; rw [← z, hw] at this; cases this
          have hpr : Option.map (fun _ => ()) (some p) = some () := rfl
          have v7 : ∀ {a0 a1 a2 a3 a4 a5 a6 : Option V} {J : Hp}, Ev (tVar 7) ([a0, a1, a2, a3, a4, a5, a6, some (.ref p)] : L2.St) J (.ref p) := ev_var rfl
          have v6 : Ev (tVar 6) ([some nm, some (.ref wd), some (.int start), some (.ref nl), some (.ref wl), some (.int at_), some (oref rs wt.getLast?), some (.ref p)] : L2.St) H4 (oref rs wt.getLast?) := ev_var rfl
          have c6 : EvT (tB (tIsN (tVar 6))) ([some nm, some (.ref wd), some (.int start), some (.ref nl), some (.ref wl), some (.int at_), some (oref rs wt.getLast?), some (.ref p)] : L2.St) H4 (decide (wt.getLast? = none)) := by
            cases z : wt.getLast? with
            | none => rw [z] at v6; exact et_in v6
            | some o => rw [z] at v6; exact et_ir v6
          have c3 : (!(refs rs (List.range ns.length)).isEmpty) = decide (ns ≠ []) := by
            cases ns with
            | nil => rfl
            | cons a b => simp [refs]
          refine q_when (b := decide (ns ≠ [] ∧ wt.getLast? = none)) (et_is (et_or (a := false) (b := decide (ns ≠ []) && decide (wt.getLast? = none)) (et_ir v7) fun _ => et_and (et_is (et_truL (ev_var rfl) (sq_of (e24 _ _ h.gn))) c3) fun _ => c6) (by simp)) (fun hbb H5 e5 => ?_) (fun hbb H5 e5 => ?_)
          · rw [if_pos (of_decide_eq_true hbb)] at hlm
            exact s_ret ev_c fun H6 e6 => k0 (hres0 hlm.symm) H6 (((h.ex.trans e24).trans e5).trans e6)
          · rw [if_neg (of_decide_eq_false hbb)] at hlm
            have e25 := e24.trans e5
            have hn : ns.length ≤ 201 := by have := h.nle; have := h.atl; omega
            refine q_app (e25 _ _ h.gn) (ev_var rfl) v7 (by unfold refs; rw [List.length_map, List.length_range]; omega) fun H6 e6 => ?_
            refine q_callD (ea_cons v7 (ea_cons (ev_var rfl) ea_nil)) fun H7 e7 => ?_
            have e26 := e25.trans e6
            have rec_ : NodeAt C nm rs H4 ⟨p, dx, t, wi⟩ nd := ⟨by rw [fou, fbi, flv]; rw [flv] at hp4; exact hp4, by rw [fat]; exact ht4, by rw [fwi]; exact hw4⟩
            have N4 : Nds C nm (rs ++ [⟨p, dx, t, wi⟩]) (ns ++ [nd]) H4 := (h.nds.ex e24).add h.wf h.bn nd _ rec_ (fun j e => h.wti j (List.mem_of_getLast? (fou ▸ e))) fbi fwi fa fw
            have rn : R (rs ++ [⟨p, dx, t, wi⟩]) ns.length = ⟨p, dx, t, wi⟩ := by rw [← hl]; exact R_new
            have ro : ∀ i, i < ns.length → R (rs ++ [⟨p, dx, t, wi⟩]) i = R rs i := fun i hi => R_app (hl ▸ hi)
            have nw' : ∀ i, i < ns.length + 1 → (R (rs ++ [⟨p, dx, t, wi⟩]) i).w ≠ wl ∧ (R (rs ++ [⟨p, dx, t, wi⟩]) i).w ≠ nl := fun i hi => by
              by_cases z : i < ns.length
              · rw [ro i z]; exact h.nw i z
              · have : i = ns.length := by omega
                rw [this, rn]
                exact ⟨wiwl, winl⟩
            have ll : (ns ++ [nd]).length = ns.length + 1 := by simp
            have N6 := ((N4.ex (e5.trans e6)).other (ys := refs rs (List.range ns.length) ++ [.ref p]) (e26 _ _ h.gn) fun i hi => (nw' i (ll ▸ hi)).2).ex e7
            have gw6 : (upd H6 nl (.lst (refs rs (List.range ns.length) ++ [.ref p]))) wl = some (.lst (refs rs wt)) := (upd_ne h.ne.symm).trans (e26 _ _ h.gw)
            have gn6 : (upd H6 nl (.lst (refs rs (List.range ns.length) ++ [.ref p]))) nl = some (.lst (refs rs (List.range ns.length) ++ [.ref p])) := upd_same
            refine ⟨nm, rs ++ [⟨p, dx, t, wi⟩], ns ++ [nd], wt, ns.length, wl, by rw [rn]; rfl, N6, by rw [ll]; omega, fun j hj => by have := h.wti j hj; omega, ?_, fun j hj => (nw' j (ll ▸ hj)).1, by have := h.wtl; omega, fun j hj => ?_, fun H8 N8 w8 K8 => ?_⟩
            · rw [refs_app fun j hj => by have := h.wti j hj; omega]
              exact e7 _ _ gw6
            · by_cases z : j < ns.length
              · rw [nth_app z]; have := h.wil j z; omega
              · have : j = ns.length := by omega
                rw [this, nth_new, fwi]
                simp
            · have l8 : (hangM (ns ++ [nd]) wt ns.length).1.length = ns.length + 1 := by
                show (addIn _ _ _).length = _
                rw [addIn_len, ll]
              have n8 : ∀ j, j < ns.length + 1 → nth (hangM (ns ++ [nd]) wt ns.length).1 j = if wt.getLast? = some j then { nth (ns ++ [nd]) j with within := (nth (ns ++ [nd]) j).within ++ [ns.length] } else nth (ns ++ [nd]) j := fun j hj => addIn_nth (by rw [ll]; exact hj)
              have nn8 : nth (hangM (ns ++ [nd]) wt ns.length).1 ns.length = nd := by
                rw [n8 _ (by omega), nth_new, if_neg]
                intro z
                have := h.wti _ (List.mem_of_getLast? z)
                omega
              have i8 := (N8.at_ ns.length (by rw [l8]; omega)).ins
              rw [nn8, rn] at i8
              have at8 : ∀ {z : Bool}, z = decide (nd.named ≠ []) → V.int (if z = true then ((at_ + 2 : Nat) : Int) else ((at_ + 1 : Nat) : Int)) = V.int ((if nd.named ≠ [] then at_ + 2 else at_ + 1 : Nat) : Int) := fun e => by
                subst e
                by_cases q : nd.named = []
                · simp [q]
                · simp [q]
              have atE : Ev (tIf (fun σ H Q => (tFld K (tVar 7) "named") σ H fun x H' => ∃ k, TruV K x H' k ∧ Q k H') (tOp (rI0 fun i j => V.int (i + j)) (tVar 5) (tC (V.int 2))) (tOp (rI0 fun i j => V.int (i + j)) (tVar 5) (tC (V.int 1)))) ([some nm, some (.ref wd), some (.int start), some (.ref nl), some (.ref wl), some (.int at_), some (oref rs wt.getLast?), some (.ref p)] : L2.St) H8 (.int ((if nd.named ≠ [] then at_ + 2 else at_ + 1 : Nat) : Int)) := by
                refine ev_if (b := decide (nd.named ≠ [])) (et_truS (ev_fld v7 i8 N.cl N.n4 rfl) (by omega)) (fun q => ?_) (fun q => ?_)
                · rw [if_pos (of_decide_eq_true q)]
                  exact ev_is (ev_op (ev_var rfl) ev_c rv_I0) (by push_cast; rfl)
                · rw [if_neg (of_decide_eq_false q)]
                  exact ev_is (ev_op (ev_var rfl) ev_c rv_I0) (by push_cast; rfl)
              refine s_asg atE fun H9 e9 => ?_
              generalize hat' : (if nd.named ≠ [] then at_ + 2 else at_ + 1) = at' at hlm
              have hat1 : at_ + 1 ≤ at' ∧ at' ≤ at_ + 2 := by rw [← hat']; split <;> omega
              refine ⟨ws.length + 1 - at', by omega, rs ++ [⟨p, dx, t, wi⟩], (hangM (ns ++ [nd]) wt ns.length).1, (hangM (ns ++ [nd]) wt ns.length).2, at', _, _, rfl, rfl, ?_⟩
              have x7 : Ex H H7 := by
                intro c o hc
                have c1 : c ≠ nl := fun z => by rw [z, h.f1] at hc; cases hc
                exact e7 _ _ ((upd_ne c1).trans (e26 _ _ (h.ex _ _ hc)))
              have hp00 : H p = none := fresh_back h.ex hp
              have hw00 : H wi = none := fresh_back h.ex hw
              exact { fu := ⟨g, by omega, hlm⟩
                      nds := N8.ex e9
                      wf := wf_hang h.wf h.wti fou fwi
                      bn := fun i hi => by
                        rw [l8] at hi
                        have b0 : (nth (ns ++ [nd]) i).binder = none := by
                          by_cases z : i < ns.length
                          · rw [nth_app z]; exact h.bn i z
                          · have : i = ns.length := by omega
                            rw [this, nth_new]; exact fbi
                        rw [n8 i hi]
                        split <;> exact b0
                      wti := fun j hj => by
                        rw [l8]
                        have := popM_sub j hj
                        rw [List.mem_append] at this
                        rcases this with q | q
                        · have := h.wti j q; omega
                        · simp at q; omega
                      wtl := by
                        rw [l8]
                        refine Nat.le_trans popM_le ?_
                        simp
                        exact h.wtl
                      wil := fun i hi => by
                        rw [l8] at hi ⊢
                        have b0 : (nth (ns ++ [nd]) i).within.length ≤ ns.length := by
                          by_cases z : i < ns.length
                          · rw [nth_app z]; exact h.wil i z
                          · have : i = ns.length := by omega
                            rw [this, nth_new, fwi]; simp
                        rw [n8 i hi]
                        split
                        · rw [List.length_append]; simp; exact b0
                        · omega
                      nle := by rw [l8]; have := h.nle; omega
                      atl := by omega
                      gn := by
                        rw [l8]
                        refine e9 _ _ (K8 _ _ ?_ ?_)
                        · rintro (z | ⟨j, hj, z⟩)
                          · exact h.ne z
                          · exact (nw' j (ll ▸ hj)).2 z.symm
                        · refine (e7 _ _ gn6).trans ?_
                          rw [List.range_succ]
                          have r1 : refs (rs ++ [⟨p, dx, t, wi⟩]) (List.range ns.length) = refs rs (List.range ns.length) := refs_app fun j hj => by rw [List.mem_range] at hj; omega
                          unfold refs at r1 ⊢
                          rw [List.map_append, r1]
                          show _ = some (HO.lst (_ ++ [V.ref (R (rs ++ [⟨p, dx, t, wi⟩]) ns.length).a]))
                          rw [rn]
                      gw := e9 _ _ w8
                      ne := h.ne
                      nw := fun i hi => nw' i (l8 ▸ hi)
                      ex := fun c o hc => e9 _ _ (K8 c o (by
                        rintro (z | ⟨j, hj, z⟩)
                        · rw [z, h.f2] at hc; cases hc
                        · rw [ll] at hj
                          by_cases q : j < ns.length
                          · rw [ro j q] at z
                            rw [z, (h.f3 j q).2] at hc; cases hc
                          · have : j = ns.length := by omega
                            rw [this, rn] at z
                            rw [z, hw00] at hc; cases hc) (x7 c o hc))
                      f1 := h.f1
                      f2 := h.f2
                      f3 := fun i hi => by
                        rw [l8] at hi
                        by_cases q : i < ns.length
                        · rw [ro i q]; exact h.f3 i q
                        · have : i = ns.length := by omega
                          rw [this, rn]; exact ⟨hp00, hw00⟩ }
    · have hat : ¬ at_ < ws.length := of_decide_eq_false hb
      obtain ⟨fu, hf, hlm⟩ := h.fu
      obtain ⟨g, rfl⟩ : ∃ g, fu = g + 1 := ⟨fu - 1, by omega⟩
      unfold loopM at hlm
      rw [if_neg hat] at hlm
      have hrx := hres1 ns wt hlm.symm
      have hn : ns.length ≤ 201 := by have := h.nle; have := h.atl; omega
      have c4 : (!(refs rs wt).isEmpty) = decide (wt ≠ []) := by
        cases wt with
        | nil => rfl
        | cons a b => simp [refs]
      have c3 : (!(refs rs (List.range ns.length)).isEmpty) = decide (ns ≠ []) := by
        cases ns with
        | nil => rfl
        | cons a b => simp [refs]
      refine q_when (b := decide (wt ≠ [] ∨ ns = [])) (et_is (et_or (a := decide (wt ≠ [])) (b := !decide (ns ≠ [])) (et_is (et_truL (ev_var rfl) (sq_of (e2 _ _ h.gw))) c4) fun _ => et_not (et_is (et_truL (ev_var rfl) (sq_of (e2 _ _ h.gn))) c3)) (by simp)) (fun hbb H3 e3 => ?_) (fun hbb H3 e3 => ?_)
      · rw [if_pos (of_decide_eq_true hbb)] at hrx
        exact s_ret ev_c fun H4 e4 => k0 hrx H4 (((h.ex.trans e2).trans e3).trans e4)
      · rw [if_neg (of_decide_eq_false hbb)] at hrx
        have e23 := e2.trans e3
        have gn3 := e23 _ _ h.gn
        refine q_forL (K := K) (a := nl) (xs := refs rs (List.range ns.length)) (ev_var rfl) (sq_of gn3) (fun i σ G' => (∃ z, σ = [some nm, some (.ref wd), some (.int start), some (.ref nl), some (.ref wl), some (.int at_), x, z]) ∧ Nds C nm rs (bindTo i ns) G' ∧ G' nl = some (.lst (refs rs (List.range ns.length))) ∧ Keep (fun c => ∃ j, j < ns.length ∧ c = (R rs j).a) H G') (fun H4 e4 => ?_) (fun i σ G' _ hp => sq_of hp.2.2.1) (fun i v σ G' hv hp => ?_) (fun σ G' hp => ?_)
        · exact ⟨⟨_, rfl⟩, h.nds.ex (e23.trans e4), e4 _ _ gn3, Keep.of ((h.ex.trans e23).trans e4)⟩
        · obtain ⟨⟨z, rfl⟩, hN, hG, hK⟩ := hp
          have hi : i < ns.length := by
            have := (List.getElem?_eq_some_iff.mp hv).1
            unfold refs at this
            rw [List.length_map, List.length_range] at this
            exact this
          have hv2 : v = .ref (R rs i).a := by
            unfold refs at hv
            rw [List.getElem?_map, List.getElem?_range hi] at hv
            exact (Option.some.inj hv).symm
          subst hv2
          have hib : i < (bindTo i ns).length := by rw [bindTo_len]; exact hi
          have n := (hN.at_ i hib).ins
          have v7 : ∀ {a0 a1 a2 a3 a4 a5 a6 : Option V} {J : Hp}, Ev (tVar 7) ([a0, a1, a2, a3, a4, a5, a6, some (.ref (R rs i).a)] : L2.St) J (.ref (R rs i).a) := ev_var rfl
          have bs : bindTo (i + 1) ns = if (nth (bindTo i ns) i).kind = [110, 97, 109, 101] then (bindTo i ns).set i (Mi.bindM (bindTo i ns) i) else bindTo i ns := rfl
          have ln : (Str.ofString "name" : Str) = S [110, 97, 109, 101] := by decide
          refine s_when (b := decide ((nth (bindTo i ns) i).kind = [110, 97, 109, 101])) (et_is (et_test (ev_op (ev_fld v7 n N.cl N.n3 rfl) ev_c (rv_eq rfl))) (by rw [ln]; exact S_eqc)) (fun hbk H4 e4 => ?_) (fun hbk H4 e4 => ?_)
          · rw [if_pos (of_decide_eq_true hbk)] at bs
            refine s_callD (ea_cons v7 ea_nil) fun H5 e5 => ?_
            refine ⟨nm, rs, bindTo i ns, i, rfl, hN.ex (e4.trans e5), wf_bindTo h.wf, hib, ?_, fun H6 N6 K6 => ⟨⟨_, rfl⟩, by rw [bs]; exact N6, ?_, ?_⟩⟩
            · rw [bindTo_over (Nat.le_refl _) hi]
              exact h.bn i hi
            · refine K6 _ _ (fun z => ?_) (e5 _ _ (e4 _ _ hG))
              rw [z, n] at hG
              cases hG
            · refine fun c o nc hc => K6 _ _ (fun z => nc ⟨i, hi, z⟩) (e5 _ _ (e4 _ _ (hK c o nc hc)))
          · rw [if_neg (of_decide_eq_false hbk)] at bs
            exact ⟨⟨_, rfl⟩, by rw [bs]; exact hN.ex e4, e4 _ _ hG, hK.ex e4⟩
        · obtain ⟨⟨z, rfl⟩, hN, hG, hK⟩ := hp
          have lx : (refs rs (List.range ns.length)).length = ns.length := by unfold refs; rw [List.length_map, List.length_range]
          rw [lx] at hN
          have bl : (bindTo ns.length ns).length = ns.length := bindTo_len
          refine s_ret (ev_var rfl) fun H4 e4 => k1 _ hrx rs nl H4 (fun c o hc => e4 _ _ (hK c o ?_ hc)) (hN.ex e4) hnl (by rw [bl]; exact e4 _ _ hG) (fun i hi => (h.f3 i (bl ▸ hi)).2) (by rw [bl]; omega)
          rintro ⟨j, hj, rfl⟩
          rw [(h.f3 j hj).1] at hc
          cases hc
end
end K5
set_option Elab.async false
set_option linter.all false
set_option maxRecDepth 100000
set_option maxHeartbeats 4000000
namespace K5
open PySem PySem.Spec PyProof.Rows L2 Evl Xl SX Mi
theorem spl_ne : ∀ {s : Wd} {t : List Nat} {k : Nat} {x : Wd}, TL.spl s k x t ≠ [] := by
  intro s t
  induction t with
  | nil => intro k x; rw [TL.spl.eq_1]; simp
  | cons c r ih =>
    intro k x
    cases k with
    | zero =>
      rw [TL.spl.eq_2]
      split
      · simp
      · exact ih
    | succ k => rw [TL.spl.eq_3]; exact ih
theorem spl_len : ∀ {s : Wd} {t : List Nat} {k : Nat} {x : Wd}, (TL.spl s k x t).length ≤ t.length + 1 ∧ ∀ y ∈ TL.spl s k x t, y.length ≤ x.length + t.length := by
  intro s t
  induction t with
  | nil => intro k x; rw [TL.spl.eq_1]; simp
  | cons c r ih =>
    intro k x
    cases k with
    | zero =>
      rw [TL.spl.eq_2]
      split
      · have h := @ih (s.length - 1) []
        refine ⟨by simp only [List.length_cons]; omega, fun y hy => ?_⟩
        rcases List.mem_cons.mp hy with z | z
        · rw [z]; omega
        · have := h.2 y z
          simp only [List.length_cons, List.length_nil] at this ⊢
          omega
      · have h := @ih 0 (x ++ [c])
        refine ⟨by simp only [List.length_cons]; omega, fun y hy => ?_⟩
        have := h.2 y hy
        simp only [List.length_append, List.length_cons, List.length_nil] at this ⊢
        omega
    | succ k =>
      rw [TL.spl.eq_3]
      have h := @ih k x
      refine ⟨by simp only [List.length_cons]; omega, fun y hy => ?_⟩
      have := h.2 y hy
      simp only [List.length_cons]
      omega
theorem addIn_named {ns : List Nd} {wt : List Nat} {i : Nat} (h : ∀ j, j < ns.length → (nth ns j).named.length ≤ 8) : ∀ j, j < (addIn ns wt i).length → (nth (addIn ns wt i) j).named.length ≤ 8 := by
  intro j hj
  rw [addIn_len] at hj
  rw [addIn_nth hj]
  split <;> exact h j hj
theorem loopM_named {ws : List Wd} : ∀ {f : Nat} {ns : List Nd} {wt : List Nat} {at_ : Nat} {ns' : List Nd} {wt' : List Nat}, loopM ws f ns wt at_ = some (ns', wt') → (∀ j, j < ns.length → (nth ns j).named.length ≤ 8) → ∀ j, j < ns'.length → (nth ns' j).named.length ≤ 8 := by
  intro f
  induction f with
  | zero => intro ns wt at_ ns' wt' e h; cases e; exact h
  | succ f ih =>
    intro ns wt at_ ns' wt' e h
    unfold loopM at e
    by_cases hat : at_ < ws.length
    · rw [if_pos hat] at e
      cases hr : readNd ws at_ wt.getLast? (lvlOf ns wt.getLast?) with
      | none => rw [hr] at e; cases e
      | some nd =>
        rw [hr] at e
        dsimp only at e
        by_cases hb : ns ≠ [] ∧ wt.getLast? = none
        · rw [if_pos hb] at e; cases e
        · rw [if_neg hb] at e
          refine ih e (addIn_named fun j hj => ?_)
          by_cases z : j < ns.length
          · rw [nth_app z]; exact h j z
          · have : j = ns.length := by simp at hj; omega
            rw [this, nth_new]
            exact (readNd_facts hr).1
    · rw [if_neg hat] at e
      cases e
      exact h
theorem readExpr_named {ws : List Wd} {st : Nat} {ns : List Nd} (h : readExpr ws st = some ns) : ∀ j, j < ns.length → (nth ns j).named.length ≤ 8 := by
  unfold readExpr at h
  cases hl : loopM ws (ws.length + 1) [] [] st with
  | none => rw [hl] at h; cases h
  | some q =>
    obtain ⟨ns', wt⟩ := q
    rw [hl] at h
    dsimp only at h
    by_cases z : wt ≠ [] ∨ ns' = []
    · rw [if_pos z] at h; cases h
    · rw [if_neg z] at h
      cases h
      intro j hj
      rw [bindTo_len] at hj
      rw [(bindTo_same hj).2.2.2.1]
      exact loopM_named hl (fun j hj => by simp at hj) j hj
theorem nds_range {ns : List Nd} : ns = (List.range ns.length).map (nth ns) := by
  refine List.ext_getElem (by simp) fun i h1 h2 => ?_
  unfold nth
  simp [List.getD_eq_getElem?_getD, h1]
theorem names_given {l : Ln} : l.names.map (fun x => V.str (S x)) = given l.nodes.length (fun i => decide ((nth l.nodes i).named ≠ [])) (fun i => .str (S (nth l.nodes i).named)) := by
  unfold Ln.names given
  conv => lhs; rw [nds_range (ns := l.nodes)]
  rw [List.filter_map, List.map_map, List.map_map]
  rfl
theorem s_fldL {K : PySem.W.Frag} {ta te : TE} {σ : L2.St} {H : Hp} {f : Str} {a C dx : Addr} {fs : List (Str × V)} {xs : List V} {D : Ends} (ha : H a = some (.ins C dx fs)) (h0 : Ev ta σ H (.ref a)) (h : EvL te σ H xs) (hc : Cls K C) (hn : NoAttr K C f) (hl : fs.length < 1000)
    (k : ∀ q H1, H q = none → Ex H H1 → H1 q = some (.lst xs) → D.nx σ (upd H1 a (.ins C dx (putF f (.ref q) fs)))) : sFld K ta te f D σ H :=
  h H (Ex.refl H) _ fun q H1 hq e1 hq1 => h0 H1 e1 _ fun H2 e2 => ⟨a, C, dx, fs, rfl, e2 _ _ (e1 _ _ ha), hc, hn, hl, k q H2 hq (e1.trans e2) (e2 _ _ hq1)⟩
structure LRec where
  a : Addr
  dx : Addr
  nl : Addr
  nm : Addr
  rs : List Rec
  deriving Inhabited
def lnF (name told : Str) (nl nm : Addr) : List (Str × V) := [("name", .str name), ("told", .str told), ("nodes", .ref nl), ("names", .ref nm)]
structure LineAt (CL C : Addr) (H : Hp) (r : LRec) (l : Ln) : Prop where
  ins : H r.a = some (.ins CL r.dx (lnF (S l.name) (S l.told) r.nl r.nm))
  nds : Nds C (.str (S l.name)) r.rs l.nodes H
  nl : H r.nl = some (.lst (refs r.rs (List.range l.nodes.length)))
  nm : H r.nm = some (.lst (l.names.map fun x => .str (S x)))
  bd : l.nodes.length ≤ 300
theorem LineAt.ex {CL C : Addr} {H H' : Hp} {r : LRec} {l : Ln} (h : LineAt CL C H r l) (e : Ex H H') : LineAt CL C H' r l := ⟨e _ _ h.ins, h.nds.ex e, e _ _ h.nl, e _ _ h.nm, h.bd⟩
structure LineC (K : PySem.W.Frag) (mg : Str → Option Value) (C : Addr) : Prop where
  cl : Cls K C
  mgC : mg "Line" = some (.ref C)
  n1 : NoAttr K C "name"
  n2 : NoAttr K C "told"
  n3 : NoAttr K C "nodes"
  n4 : NoAttr K C "names"
section
variable {P : Program} {w : World} {K : PySem.W.Frag} {mg : Str → Option Value} {base : Heap} {f : Addr} {fd : FuncData}
def spLine (CL C : Addr) : Sp := fun vs H Q _ => ∃ (p dx nl : Addr) (rs : List Rec) (l : Ln), vs = [.ref p, .str (S l.name), .str (S l.told), .ref nl] ∧ H p = some (.ins CL dx []) ∧ Nds C (.str (S l.name)) rs l.nodes H ∧ H nl = some (.lst (refs rs (List.range l.nodes.length))) ∧ l.nodes.length ≤ 300 ∧
  (∀ j, j < l.nodes.length → (nth l.nodes j).named.length ≤ 8) ∧ ∀ (nm : Addr) (H' : Hp), Keep (fun c => c = p) H H' → H nm = none → LineAt CL C H' ⟨p, dx, nl, nm, rs⟩ l → Q .non H'
abbrev sLine : Stmt := inClass (top 29) 0
theorem scL : FnScope ["self", "name", "told", "nodes", "node"] ["self", "name", "told", "nodes"] (C8.fnScope sLine) := C8.fnScope_by (by decide +kernel)
theorem ok_line {CL C : Addr} (F : C8.Fun K "__init__" "Line.__init__" sLine f fd) (T : LineC K mg CL) (N : NodeC K mg C) (M : Mk K CL f) (b : Binds K fd ["self", "name", "told", "nodes"] []) : C8.Mak P w K mg base 1 "Line" CL (spLine CL C) [] := by
  refine C8.mak0 M T.mgC F b .nil scL (fun vs H Q E h => by obtain ⟨p, dx, nl, rs, l, rfl, _⟩ := h; rfl) (fun cdv A outer s H vs Q E hr h => ?_)
  obtain ⟨p, dx, nl, rs, l, rfl, hp, hN, hnl, hbd, hnm, k⟩ := h
  refine ⟨_, pss_cons (ps_fld (pv 0) (pv 1) rfl) (pss_cons (ps_fld (pv 0) (pv 2) rfl) (pss_cons (ps_fld (pv 0) (pv 3) rfl)
    (pss_one (ps_fld (pv 0) (pe_lc (own := [("node", 4)]) (g := gName 4) (tt := fun σ H Q => tFld K (tVar 4) "named" σ H fun x H' => ∃ k, TruV K x H' k ∧ Q k H') (te := tFld K (tVar 4) "named") rfl scL.nd (pi_list (pv 3)) (blkOk_by (N := ["self", "name", "told", "nodes", "node"]) (sc := C8.fnScope sLine) (by decide +kernel))
          (fun _ _ _ _ _ => pg_name (i := 4) scL.nd rfl (Or.inl rfl)) (fun _ _ _ _ _ => pts_one (pt_truth (pe_fld (pv 4) (by rfl)) (by intro _; rfl))) (fun _ _ _ _ _ => pe_fld (pv 4) (by rfl))) rfl)))), ?_⟩
  refine ⟨_, rfl, _, rfl, p, CL, dx, [], rfl, hp, T.cl, T.n1, (by show 0 < 1000; decide), ?_⟩
  refine ⟨_, rfl, _, rfl, p, CL, dx, _, rfl, upd_same, T.cl, T.n2, (by show 1 < 1000; decide), ?_⟩
  refine ⟨_, rfl, _, rfl, p, CL, dx, _, rfl, upd_same, T.cl, T.n3, (by show 2 < 1000; decide), ?_⟩
  have ne : ∀ {c : Addr} {o : HO}, H c = some o → (∀ C' d, o ≠ .ins C' d []) → c ≠ p := fun hc ho z => by rw [z, hp] at hc; cases hc; exact ho _ _ rfl
  have keep : ∀ {F1 F2 F3 : List (Str × V)} {c : Addr} {o : HO}, H c = some o → c ≠ p → upd (upd (upd H p (.ins CL dx F1)) p (.ins CL dx F2)) p (.ins CL dx F3) c = some o := fun hc n => by rw [upd_ne n, upd_ne n, upd_ne n]; exact hc
  have hNs : ∀ {F1 F2 F3 : List (Str × V)}, Nds C (.str (S l.name)) rs l.nodes (upd (upd (upd H p (.ins CL dx F1)) p (.ins CL dx F2)) p (.ins CL dx F3)) := fun {F1 F2 F3} =>
    ⟨hN.len, fun i hi => ⟨keep (hN.at_ i hi).ins (ne (hN.at_ i hi).ins fun _ _ z => by cases z), keep (hN.at_ i hi).tup (ne (hN.at_ i hi).tup fun _ _ z => by cases z), keep (hN.at_ i hi).win (ne (hN.at_ i hi).win fun _ _ z => by cases z)⟩, hN.ia, hN.iw⟩
  have hnl3 : ∀ {F1 F2 F3 : List (Str × V)}, upd (upd (upd H p (.ins CL dx F1)) p (.ins CL dx F2)) p (.ins CL dx F3) nl = some (.lst (refs rs (List.range l.nodes.length))) := keep hnl (ne hnl fun _ _ z => by cases z)
  have el : EvL (tLc (iList K (tVar 3)) (gName 4) (fun σ H Q => tFld K (tVar 4) "named" σ H fun x H' => ∃ k, TruV K x H' k ∧ Q k H') (tFld K (tVar 4) "named") [4]) (start ["self", "name", "told", "nodes", "node"] [V.ref p, .str (S l.name), .str (S l.told), .ref nl])
      (upd (upd (upd H p (.ins CL dx (putF "name" (.str (S l.name)) []))) p (.ins CL dx (putF "told" (.str (S l.told)) (putF "name" (.str (S l.name)) [])))) p (.ins CL dx (putF "nodes" (.ref nl) (putF "told" (.str (S l.told)) (putF "name" (.str (S l.name)) [])))))
      (given (refs rs (List.range l.nodes.length)).length (fun i => decide ((nth l.nodes i).named ≠ [])) (fun i => .str (S (nth l.nodes i).named))) := by
    have at_i : ∀ {i : Nat} {x : V}, (refs rs (List.range l.nodes.length))[i]? = some x → i < l.nodes.length ∧ x = .ref (R rs i).a := fun {i x} hv => by
      have hi : i < l.nodes.length := by
        have := (List.getElem?_eq_some_iff.mp hv).1
        unfold refs at this
        rw [List.length_map, List.length_range] at this
        exact this
      unfold refs at hv
      rw [List.getElem?_map, List.getElem?_range hi] at hv
      exact ⟨hi, (Option.some.inj hv).symm⟩
    refine el_lcL (K := K) (j := 4) _ _ (ev_var rfl) (sq_of hnl3) (by unfold refs; rw [List.length_map, List.length_range]; omega) (fun _ => rfl) (fun i x H1 e1 hv => ?_) (fun i x H1 e1 hv _ => ?_)
    · obtain ⟨hi, rfl⟩ := at_i hv
      exact et_truS (ev_fld (ev_var rfl) (e1 _ _ (hNs.at_ i hi).ins) N.cl N.n4 rfl) (by have := hnm i hi; omega)
    · obtain ⟨hi, rfl⟩ := at_i hv
      exact ev_fld (ev_var rfl) (e1 _ _ (hNs.at_ i hi).ins) N.cl N.n4 rfl
  refine s_fldL upd_same (ev_var rfl) el T.cl T.n4 (by show 3 < 1000; decide) fun nm H4 hm0 e4 hm4 => ?_
  have lx : (refs rs (List.range l.nodes.length)).length = l.nodes.length := by unfold refs; rw [List.length_map, List.length_range]
  rw [lx, ← names_given] at hm4
  have nmp : nm ≠ p := fun z => by rw [z, upd_same] at hm0; cases hm0
  have old : ∀ {c : Addr} {o : HO}, H c = some o → c ≠ p → H4 c = some o := fun hc n => e4 _ _ (keep hc n)
  have old5 : ∀ {c : Addr} {o o' : HO}, H c = some o → c ≠ p → (upd H4 p o') c = some o := fun hc n => (upd_ne n).trans (old hc n)
  refine k nm _ (fun c o n hc => old5 hc n) ?_ ⟨upd_same, ⟨hN.len, fun i hi => ⟨old5 (hN.at_ i hi).ins (ne (hN.at_ i hi).ins fun _ _ z => by cases z), old5 (hN.at_ i hi).tup (ne (hN.at_ i hi).tup fun _ _ z => by cases z), old5 (hN.at_ i hi).win (ne (hN.at_ i hi).win fun _ _ z => by cases z)⟩, hN.ia, hN.iw⟩,
    old5 hnl (ne hnl fun _ _ z => by cases z), (upd_ne nmp).trans hm4, hbd⟩
  rw [upd_ne nmp, upd_ne nmp, upd_ne nmp] at hm0
  exact hm0
end
end K5
set_option Elab.async false
set_option linter.all false
set_option maxRecDepth 100000
set_option maxHeartbeats 4000000
namespace K5
open PySem PySem.Spec PyProof.Rows L2 Evl Xl SX Mi
def rSplit : V → List V → Hp → VK → Prop := fun x xs H Q => ∃ a b, x = V.str a ∧ xs = [V.str b] ∧ (b.length == 0) = false ∧ a.length + 2 ≤ PySem.sizeLine ∧ rNewStrs (PySem.Txt.split a b) H Q
theorem el_split {ta tb : TE} {σ : L2.St} {H : Hp} {a b : Wd} (ha : Ev ta σ H (.str (S a))) (hb : Ev tb σ H (.str (S b))) (hb1 : b ≠ []) (hb2 : (b.all fun x => decide (x < 256)) = true) (hl : a.length ≤ 9000) : EvL (tM1 rSplit ta tb) σ H ((TL.spl b 0 [] a).map fun x => .str (S x)) := by
  refine fun H1 e Q q => ha H1 e _ fun H2 e2 => ⟨⟨_, rfl⟩, hb H2 (e.trans e2) _ fun H3 e3 => ⟨S a, S b, rfl, rfl, ?_, ?_, fun p hp => ?_⟩⟩
  · cases b with
    | nil => exact absurd rfl hb1
    | cons c r => rw [S_len]; simp
  · rw [S_len, sizeLine_eq]; omega
  · have e23 := e2.trans e3
    refine q p _ (fresh_back e23 hp) (ex_put (fresh_back e23 hp) e23) ?_
    rw [upd_same, split_S hb1 hb2, List.map_map]
    rfl
theorem q_twoT {K : PySem.W.Frag} {ta tb : TE} {σ : L2.St} {H : Hp} {x y : V} {i j : Nat} {D : Ends} {tz : TS} (ha : Ev ta σ H x) (hb : Ev tb σ H y) (k : ∀ H1, Ex H H1 → tz D ((σ.set i (some x)).set j (some y)) H1) :
    tSeq (tAsg (tTup (tCons ta (tCons tb tNil))) (gTup K 2 (gCons (gName i) (gCons (gName j) gNil)))) tz D σ H :=
  ha H (Ex.refl H) _ fun H1 e1 => hb H1 e1 _ fun H2 e2 => ⟨by show 2 ≤ sizeLine; rw [sizeLine_eq]; omega, fun p hp => ⟨p, _, rfl, st_of upd_same, rfl, x, [y], rfl, y, [], rfl, rfl, k _ ((e1.trans e2).trans (ex_put hp (Ex.refl H2)))⟩⟩
theorem s_twoT {K : PySem.W.Frag} {ta tb : TE} {σ : L2.St} {H : Hp} {x y : V} {i j : Nat} {D : Ends} (ha : Ev ta σ H x) (hb : Ev tb σ H y) (k : ∀ H1, Ex H H1 → D.nx ((σ.set i (some x)).set j (some y)) H1) :
    tAsg (tTup (tCons ta (tCons tb tNil))) (gTup K 2 (gCons (gName i) (gCons (gName j) gNil))) D σ H :=
  ha H (Ex.refl H) _ fun H1 e1 => hb H1 e1 _ fun H2 e2 => ⟨by show 2 ≤ sizeLine; rw [sizeLine_eq]; omega, fun p hp => ⟨p, _, rfl, st_of upd_same, rfl, x, [y], rfl, y, [], rfl, rfl, k _ ((e1.trans e2).trans (ex_put hp (Ex.refl H2)))⟩⟩
theorem s_par {ta : TA} {σ : L2.St} {H : Hp} {x y : V} {i j : Nat} {D : Ends} (ha : EvA ta σ H [x, y]) (k : ∀ H1, Ex H H1 → D.nx ((σ.set i (some x)).set j (some y)) H1) : tPar i j ta D σ H :=
  ha H (Ex.refl H) _ fun H1 e1 => ⟨x, y, rfl, k H1 e1⟩
theorem q_callA {sp : Sp} {dvs vs : List V} {E : XK} {ta : TA} {σ : L2.St} {H : Hp} {D : Ends} {tz : TS} {i : Nat} (h : EvA ta σ H vs) (k : ∀ H1, Ex H H1 → sp (vs ++ dvs) H1 (fun v H2 => tz D (σ.set i (some v)) H2) E) : tSeq (tAsg (tCall sp dvs E ta) (gName i)) tz D σ H :=
  h H (Ex.refl H) _ fun H1 e1 => k H1 e1
theorem r_make {C : Addr} {sp : Sp} {dvs vs : List V} {E : XK} {ta : TA} {σ : L2.St} {H : Hp} {Q : VK} (h : EvA ta σ H vs) (k : ∀ H1, Ex H H1 → ∀ x dx, H1 x = none → H1 dx = none → dx ≠ x → sp (V.ref x :: (vs ++ dvs)) (upd (upd H1 dx (.own x)) x (.ins C dx [])) (fun v H2 => v = .non ∧ Q (.ref x) H2) E) : tMake C sp dvs E ta σ H Q :=
  h H (Ex.refl H) _ fun H1 e1 => k H1 e1
section
variable {P : Program} {w : World} {K : PySem.W.Frag} {mg : Str → Option Value} {base : Heap} {f : Addr} {fd : FuncData}
def spRL (CL C : Addr) : Sp := fun vs H Q _ => ∃ told : Wd, vs = [.str (S told)] ∧ told.length ≤ 9000 ∧ (readLine told = none → ∀ H', Ex H H' → Q .non H') ∧
  ∀ l, readLine told = some l → ∀ (r : LRec) (H' : Hp), Ex H H' → LineAt CL C H' r l → (∀ i, i < l.nodes.length → H (R r.rs i).w = none) → H r.a = none → H r.nl = none → H r.nm = none → Q (.ref r.a) H'
theorem scRL : FnScope ["told", "words", "name", "start", "nodes"] ["told"] (C8.fnScope (top 31)) := C8.fnScope_by (by decide +kernel)
theorem ok_read_line {CL C : Addr} (F : C8.Def K mg "read_line" (top 31) f fd) (b : Binds K fd ["told"] []) (T : Txt2 K w mg) (cF : C8.Cal P w K mg base 2 "is_free" spFree []) (cE : C8.Cal P w K mg base 4 "read_expression" (spExpr C) [])
    (cL : C8.Mak P w K mg base 1 "Line" CL (spLine CL C) []) : C8.Cal P w K mg base 5 "read_line" (spRL CL C) [] := by
  obtain ⟨tm, mm⟩ := T.mostW
  refine C8.cal0 F b .nil scRL (fun vs H Q E h => by obtain ⟨told, rfl, _⟩ := h; rfl) (fun cdv A outer s H vs Q E hr h => ?_)
  obtain ⟨told, rfl, hl, k0, k1⟩ := h
  refine ⟨_, pss_cons (ps_set (i := 1) scRL.nd rfl (Or.inl rfl) (pe_split (pv 0) pe_str))
    (pss_cons (ps_if (pt_cmpR op_gt (pe_callB call_len_seq (by rfl) T.len_ boot_len (pa_cons (pv 1) pa_nil)) (pe_glob (v := .int 120) (by rfl) mm ⟨tm, rfl⟩) (nomark _)) (pss_one (ps_ret pe_non)) pss_nil)
    (pss_cut (ps_if (pt_cmpR op_eq (pe_ix ix_list (pv 1) pe_int (fun _ _ => rfl)) pe_str (nomark _))
        (pss_one (ps_asg (pe_tup (pa_cons pe_str (pa_cons pe_int pa_nil))) (pg_tup (by rfl) (pgs_cons (pg_name (i := 2) scRL.nd rfl (.inl rfl)) (pgs_cons (pg_name (i := 3) scRL.nd rfl (.inl rfl)) pgs_nil)))))
        (pss_one (ps_if (pw_and (pt_cmpR op_eq (pe_ix ix_list (pv 1) pe_int (fun _ _ => rfl)) pe_str (nomark _))
            (pw_and (pt_cmpR op_gt (pe_callB call_len_seq (by rfl) T.len_ boot_len (pa_cons (pv 1) pa_nil)) pe_int (nomark _))
            (pw_and (pt_val (C8.pe_c cF hr (by decide) (by rfl) (pa_cons (pe_ix ix_list (pv 1) pe_int (fun _ _ => rfl)) pa_nil)))
              (pw_and1 (pt_cmpR op_eq (pe_ix ix_list (pv 1) pe_int (fun _ _ => rfl)) pe_str (nomark _)))))).pt
          (pss_one (ps_par (i := 2) (j := 3) (by rfl) scRL.nd rfl rfl (by decide) rfl rfl (pa_cons (pe_ix ix_list (pv 1) pe_int (fun _ _ => rfl)) (pa_cons pe_int pa_nil)) (by rfl)))
          (pss_one (ps_ret pe_non)))))
    (pss_cons (ps_set (i := 4) scRL.nd rfl (Or.inl rfl) (C8.pe_c cE hr (by decide) (by rfl) (pa_cons (pv 2) (pa_cons (pv 1) (pa_cons (pv 3) pa_nil)))))
    (pss_one (ps_ret (pe_ifExp (pt_cmp (pc_isN (pv 4))) pe_non (C8.pe_mk cL hr (by decide) (by rfl) (pa_cons (pv 2) (pa_cons (pv 0) (pa_cons (pv 4) pa_nil))))))))))
    , ?_⟩
  have l32 : (Str.ofString " " : Str) = S [32] := by decide
  have lrun : (Str.ofString "run" : Str) = S [114, 117, 110] := by decide
  have lpart : (Str.ofString "part" : Str) = S [112, 97, 114, 116] := by decide
  have lfun : (Str.ofString "fun" : Str) = S [102, 117, 110] := by decide
  refine q_asgL (el_split (a := told) (b := [32]) (ev_var rfl) (by rw [← l32]; exact ev_c) (by decide) (by decide) hl) fun wd H1 hwd0 e1 hwd => ?_
  have hw1 : 1 ≤ (TL.spl [32] 0 [] told).length := by
    cases z : TL.spl [32] 0 [] told with
    | nil => exact absurd z spl_ne
    | cons a b => simp
  have hwl : ∀ y ∈ TL.spl [32] 0 [] told, y.length ≤ 9000 := fun y hy => by have := (@spl_len [32] told 0 []).2 y hy; simp at this; omega
  have hrl : readLine told = (let words := TL.spl [32] 0 [] told
      if 120 < words.length then none
      else if words.getD 0 [] = [114, 117, 110] then (readExpr words 1).map fun ns => ⟨[114, 117, 110], told, ns⟩
      else if words.getD 0 [] = [112, 97, 114, 116] ∧ 2 < words.length ∧ okFree (words.getD 1 []) = true ∧ words.getD 2 [] = [102, 117, 110] then (readExpr words 2).map fun ns => ⟨words.getD 1 [], told, ns⟩
      else none) := rfl
  generalize hws : TL.spl [32] 0 [] told = ws at *
  dsimp only at hrl
  have lw : (ws.map fun x => V.str (S x)).length = ws.length := by simp
  have wix : ∀ {σ : L2.St} {G : Hp} {n : Nat} {tn : TE}, Ex H1 G → n < ws.length → σ[1]? = some (some (.ref wd)) → Ev tn σ G (.int n) → Ev (tOp (rIxL K) (tVar 1) tn) σ G (.str (S (ws.getD n []))) := fun {σ G n tn} e hn hσ ht => ev_op (ev_var hσ) ht (rv_ixL (sq_of (e _ _ hwd)) (atI_ws hn))
  refine q_when (b := decide (120 < ws.length)) (et_is (et_test (ev_op (ev_len (ev_var rfl) (sq_of hwd)) ev_c rv_I0)) (by rw [lw]; exact decide_eq_decide.mpr (by omega))) (fun hb H2 e2 => ?_) (fun hb H2 e2 => ?_)
  · rw [if_pos (of_decide_eq_true hb)] at hrl
    exact s_ret ev_c fun H3 e3 => k0 hrl H3 ((e1.trans e2).trans e3)
  · have h120 : ¬ 120 < ws.length := of_decide_eq_false hb
    rw [if_neg h120] at hrl
    refine q_cut (M := fun σ G => ∃ (x : Wd) (st : Nat), σ = [some (.str (S told)), some (.ref wd), some (.str (S x)), some (.int st), none] ∧ Ex H2 G ∧ st ≤ 2 ∧ x.length ≤ 9000 ∧ readLine told = (readExpr ws st).map fun ns => ⟨x, told, ns⟩) ?_ ?_
    · refine s_if (b := decide (ws.getD 0 [] = [114, 117, 110])) (et_is (et_test (ev_op (wix (n := 0) e2 (by omega) rfl ev_c) ev_c (rv_eq rfl))) (by rw [lrun]; exact S_eqc)) (fun hb1 H3 e3 => ?_) (fun hb1 H3 e3 => ?_)
      · rw [if_pos (of_decide_eq_true hb1)] at hrl
        exact s_twoT (x := .str (S [114, 117, 110])) (y := .int 1) (by rw [← lrun]; exact ev_c) ev_c fun H4 e4 => ⟨[114, 117, 110], 1, rfl, e3.trans e4, by omega, by simp, hrl⟩
      · rw [if_neg (of_decide_eq_false hb1)] at hrl
        refine s_if (b := decide (ws.getD 0 [] = [112, 97, 114, 116] ∧ 2 < ws.length ∧ okFree (ws.getD 1 []) = true ∧ ws.getD 2 [] = [102, 117, 110])) (et_is (et_and (a := decide (ws.getD 0 [] = [112, 97, 114, 116])) (b := decide (2 < ws.length) && (okFree (ws.getD 1 []) && decide (ws.getD 2 [] = [102, 117, 110])))
            (et_is (et_test (ev_op (wix (n := 0) (e2.trans e3) (by omega) rfl ev_c) ev_c (rv_eq rfl))) (by rw [lpart]; exact S_eqc)) fun _ => et_and (et_is (et_test (ev_op (ev_len (ev_var rfl) (sq_of ((e2.trans e3) _ _ hwd))) ev_c rv_I0)) (by rw [lw]; norm_cast)) fun h2 => ?_) ?_) (fun hb2 H4 e4 => ?_) (fun hb2 H4 e4 => ?_)
        · have h2' : 2 < ws.length := of_decide_eq_true h2
          exact et_and (et_B (ev_call (ea_cons (wix (n := 1) (e2.trans e3) (by omega) rfl ev_c) ea_nil) fun H5 e5 Q' q E' => ⟨_, rfl, hwl _ (mem_ws (by omega)), q⟩)) fun _ => et_is (et_test (ev_op (wix (n := 2) (e2.trans e3) (by omega) rfl ev_c) ev_c (rv_eq rfl))) (by rw [lfun]; exact S_eqc)
        · simp only [Bool.decide_and, Bool.decide_eq_true]
        · have hb2' := of_decide_eq_true hb2
          rw [if_pos hb2'] at hrl
          exact s_par (x := .str (S (ws.getD 1 []))) (y := .int 2) (ea_cons (wix (n := 1) ((e2.trans e3).trans e4) (by omega) rfl ev_c) (ea_cons ev_c ea_nil)) fun H5 e5 => ⟨_, 2, rfl, (e3.trans e4).trans e5, by omega, hwl _ (mem_ws (by omega)), hrl⟩
        · rw [if_neg (of_decide_eq_false hb2)] at hrl
          exact s_ret ev_c fun H5 e5 => k0 hrl H5 ((((e1.trans e2).trans e3).trans e4).trans e5)
    · rintro σ' G ⟨x, st, rfl, eG, hst, hxl, hrr⟩
      have e1G := e2.trans eG
      refine q_callA (vs := [.str (S x), .ref wd, .int st]) (ea_cons (ev_var rfl) (ea_cons (ev_var rfl) (ea_cons (ev_var rfl) ea_nil))) fun H3 e3 => ?_
      have e13 := e1G.trans e3
      refine ⟨wd, .str (S x), ws, st, rfl, e13 _ _ hwd, by omega, hwl, by omega, fun hn H4 e4 => ?_, fun ns hn rs nl H4 e4 N4 hnl hnl4 hf hbd => ?_⟩
      · rw [hn] at hrr
        exact s_ret (ev_if (b := true) (et_in (ev_var rfl)) (fun _ => ev_c) fun z => (by cases z)) fun H5 e5 => k0 hrr H5 (((e1.trans e13).trans e4).trans e5)
      · rw [hn] at hrr
        have hrr' : readLine told = some ⟨x, told, ns⟩ := hrr
        have eall := e1.trans (e13.trans e4)
        refine ⟨_, rfl, false, ?_, ?_⟩
        · simp
        · refine r_make (vs := [.str (S x), .str (S told), .ref nl]) (ea_cons (ev_var rfl) (ea_cons (ev_var rfl) (ea_cons (ev_var rfl) ea_nil))) fun H5 e5 p dx hp hdx hne => ?_
          have x6 : Ex H5 (upd (upd H5 dx (.own p)) p (.ins CL dx [])) := ex_put hp (ex_put hdx (Ex.refl H5))
          have e56 := e5.trans x6
          refine ⟨p, dx, nl, rs, ⟨x, told, ns⟩, rfl, upd_same, N4.ex e56, e56 _ _ hnl4, hbd, readExpr_named hn, fun nm H7 K7 hnm L7 => ⟨rfl, ?_⟩⟩
          have hp0 : H p = none := fresh_back (eall.trans e5) hp
          have ex7 : Ex H H7 := fun c o hc => K7 c o (fun z => by rw [z, hp0] at hc; cases hc) ((eall.trans e56) c o hc)
          refine k1 _ hrr' ⟨p, dx, nl, nm, rs⟩ H7 ex7 L7 (fun i hi => fresh_back (e1.trans e13) (hf i hi)) hp0 (fresh_back (e1.trans e13) hnl) (fresh_back (eall.trans e56) hnm)
end
end K5
set_option Elab.async false
set_option linter.all false
set_option maxRecDepth 100000
set_option maxHeartbeats 4000000
namespace K5
open PySem PySem.Spec PyProof.Rows L2 Evl Xl SX Mi
def LR (lrs : List LRec) (i : Nat) : LRec := lrs.getD i default
def lnth (ls : List Ln) (i : Nat) : Ln := ls.getD i default
def lrefs (lrs : List LRec) : List V := lrs.map fun r => .ref r.a
structure Lns (CL C : Addr) (lrs : List LRec) (ls : List Ln) (H : Hp) : Prop where
  len : lrs.length = ls.length
  at_ : ∀ i, i < ls.length → LineAt CL C H (LR lrs i) (lnth ls i)
theorem Lns.ex {CL C : Addr} {lrs : List LRec} {ls : List Ln} {H H' : Hp} (h : Lns CL C lrs ls H) (e : Ex H H') : Lns CL C lrs ls H' := ⟨h.len, fun i hi => (h.at_ i hi).ex e⟩
theorem inV_map {x : Wd} {l : List Wd} : inV (.str (S x)) (l.map fun y => .str (S y)) = decide (x ∈ l) := by
  induction l with
  | nil => rfl
  | cons a r ih =>
    show ((S a == S x) || inV (.str (S x)) (r.map fun y => .str (S y))) = _
    rw [ih, S_beq_eq]
    by_cases h : a = x
    · subst h; simp
    · have h2 : ¬ x = a := fun z => h z.symm
      simp [h, h2]
theorem flat_map {l : List Wd} : (l.map fun y => V.str (S y)).all flatV = true := by simp [flatV]
theorem ls_range {ls : List Ln} : ls = (List.range ls.length).map (lnth ls) := by
  refine List.ext_getElem (by simp) fun i h1 h2 => ?_
  unfold lnth
  simp [List.getD_eq_getElem?_getD, h1]
theorem given_ls {ls : List Ln} (g : Ln → V) : given ls.length (fun _ => true) (fun i => g (lnth ls i)) = ls.map g := by
  unfold given
  conv => rhs; rw [ls_range (ls := ls)]
  rw [List.map_map, List.filter_eq_self.mpr fun _ _ => rfl]
  rfl
theorem given_ws {zs : List Wd} (g : Wd → V) : given zs.length (fun _ => true) (fun i => g (zs.getD i [])) = zs.map g := by
  unfold given
  rw [List.filter_eq_self.mpr fun _ _ => rfl]
  refine List.ext_getElem (by simp) fun i h1 h2 => ?_
  have h3 : i < zs.length := by simpa using h2
  simp [List.getD_eq_getElem?_getD, h3]
theorem names_bd {l : Ln} (h : l.nodes.length ≤ 300) : l.names.length ≤ 300 := by
  unfold Ln.names
  rw [List.length_map]
  exact Nat.le_trans (List.length_filter_le _ _) h
theorem lrefs_at {CL C : Addr} {lrs : List LRec} {ls : List Ln} {H : Hp} (h : Lns CL C lrs ls H) {i : Nat} {x : V} (hx : (lrefs lrs)[i]? = some x) : i < ls.length ∧ x = .ref (LR lrs i).a := by
  unfold lrefs at hx
  rw [List.getElem?_map] at hx
  cases z : lrs[i]? with
  | none => rw [z] at hx; cases hx
  | some r =>
    rw [z] at hx
    have hi : i < lrs.length := (List.getElem?_eq_some_iff.mp z).1
    refine ⟨by rw [← h.len]; exact hi, ?_⟩
    unfold LR
    rw [List.getD_eq_getElem?_getD, z]
    exact (Option.some.inj hx).symm
section
variable {P : Program} {w : World} {K : PySem.W.Frag} {mg : Str → Option Value} {base : Heap} {f : Addr} {fd : FuncData}
theorem el_lnames {CL C : Addr} {lrs : List LRec} {ls : List Ln} {H : Hp} {σ : L2.St} {al : Addr} {tl : TE} {j : Nat} {vs : List Nat} (T : LineC K mg CL) (h : Lns CL C lrs ls H) (ht : Ev tl σ H (.ref al)) (ha : H al = some (.lst (lrefs lrs))) (hl : ls.length ≤ 1000)
    (hw : ∀ y, wipe ((wipe σ vs).set j (some y)) vs = wipe σ vs) (hj : ∀ y, ((wipe σ vs).set j (some y))[j]? = some (some y)) : EvL (tLc (iList K tl) (gName j) tYes (tFld K (tVar j) "name") vs) σ H ((ls.map (·.name)).map fun x => .str (S x)) := by
  have lx : (lrefs lrs).length = ls.length := by unfold lrefs; rw [List.length_map, h.len]
  have g := el_lcL (K := K) (te := tFld K (tVar j) "name") (t := tYes) (j := j) (vs := vs) (fun _ => true) (fun i => .str (S (lnth ls i).name)) ht (sq_of ha) (by rw [lx]; omega) hw (fun i x H1 e1 hx => fun H2 e2 Q q => q H2 (Ex.refl H2)) fun i x H1 e1 hx _ => by
    obtain ⟨hi, rfl⟩ := lrefs_at h hx
    exact ev_fld (ev_var (hj _)) (e1 _ _ (h.at_ i hi).ins) T.cl T.n1 rfl
  rw [lx, given_ls fun o => .str (S o.name)] at g
  rw [List.map_map]
  exact g
def spCan (CL C : Addr) : Sp := fun vs H Q _ => ∃ (r : LRec) (l : Ln) (lrs : List LRec) (ls : List Ln) (al : Addr), vs = [.ref r.a, .ref al] ∧ LineAt CL C H r l ∧ Lns CL C lrs ls H ∧ H al = some (.lst (lrefs lrs)) ∧ ls.length ≤ 1000 ∧ ∀ H', Ex H H' → Q (.bl (canStand l ls)) H'
abbrev nC : List Str := ["line", "ahead", "names", "other", "name"]
theorem scC : FnScope nC ["line", "ahead"] (C8.fnScope (top 32)) := C8.fnScope_by (by decide +kernel)
theorem ok_can {CL C : Addr} (F : C8.Def K mg "can_stand" (top 32) f fd) (b : Binds K fd ["line", "ahead"] []) (T : Txt2 K w mg) (L : LineC K mg CL) : C8.Cal P w K mg base 1 "can_stand" (spCan CL C) [] := by
  obtain ⟨tp, mp⟩ := T.mostP
  refine C8.cal0 F b .nil scC (fun vs H Q E h => by obtain ⟨r, l, lrs, ls, al, rfl, _⟩ := h; rfl) (fun cdv A outer s H vs Q E hr h => ?_)
  obtain ⟨r, l, lrs, ls, al, rfl, hl, hls, hal, hlen, k⟩ := h
  refine ⟨_, pss_cons (ps_set (i := 2) scC.nd rfl (Or.inr rfl) (pe_lc (own := [("other", 3)]) (g := gName 3) (tt := tYes) (te := tFld K (tVar 3) "name") rfl scC.nd (pi_list (pv 1)) (blkOk_by (N := nC) (sc := C8.fnScope (top 32)) (by decide +kernel))
      (fun _ _ _ _ _ => pg_name (i := 3) scC.nd rfl (Or.inl rfl)) (fun _ _ _ _ _ => pts_nil) (fun _ _ _ _ _ => pe_fld (pv 3) (by rfl))))
    (pss_cons (ps_if (pw_or (pt_cmpR op_in_seq pe_str (pv 2) rfl) (pw_or1 (pt_cmpR op_in_seq (pe_fld (pv 0) rfl) (pv 2) rfl))).pt (pss_one (ps_ret pe_bl)) pss_nil)
    (pss_cons (ps_if (pw_and (pt_cmpR op_ne (pe_fld (pv 0) rfl) pe_str (nomark _)) (pw_and1 (pt_cmpR op_eq (pe_callB call_len_seq (by rfl) T.len_ boot_len (pa_cons (pv 2) pa_nil)) (pe_glob (v := .int 12) (by rfl) mp ⟨tp, rfl⟩) (nomark _)))).pt (pss_one (ps_ret pe_bl)) pss_nil)
    (pss_cons (ps_if (pw_or (pt_cmpR op_in_seq (pe_fld (pv 0) rfl) (pe_fld (pv 0) rfl) rfl) (pw_or1 (pt_val (pe_callB (cr_any rfl) (by rfl) T.any_ boot_any (pa_cons (pe_lc (own := [("other", 3)]) (g := gName 3) (tt := tYes) (te := tOp (rIn K false) (tFld K (tVar 0) "name") (tFld K (tVar 3) "names")) rfl scC.nd (pi_list (pv 1)) (blkOk_by (N := nC) (sc := C8.fnScope (top 32)) (by decide +kernel))
          (fun _ _ _ _ _ => pg_name (i := 3) scC.nd rfl (Or.inl rfl)) (fun _ _ _ _ _ => pts_nil) (fun _ _ _ _ _ => pe_cmpR op_in_seq (pe_fld (pv 0) (by rfl)) (pe_fld (pv 3) (by rfl)) rfl)) pa_nil))))).pt (pss_one (ps_ret pe_bl)) pss_nil)
    (pss_one (ps_ret (pe_not (pe_callB (cr_any rfl) (by rfl) T.any_ boot_any (pa_cons (pe_lc (own := [("name", 4)]) (g := gName 4) (tt := tYes) (te := tOp (rIn K false) (tVar 4) (tVar 2)) rfl scC.nd (pi_list (pe_fld (pv 0) rfl)) (blkOk_by (N := nC) (sc := C8.fnScope (top 32)) (by decide +kernel))
          (fun _ _ _ _ _ => pg_name (i := 4) scC.nd rfl (Or.inl rfl)) (fun _ _ _ _ _ => pts_nil) (fun _ _ _ _ _ => pe_cmpR op_in_seq (pv 4) (pv 2) rfl)) pa_nil)))))))), ?_⟩
  have lrun : (Str.ofString "run" : Str) = S [114, 117, 110] := by decide
  have lx : (lrefs lrs).length = ls.length := by unfold lrefs; rw [List.length_map, hls.len]
  refine q_asgL (el_lnames (j := 3) L hls (ev_var rfl) hal hlen (fun y => rfl) fun y => rfl) fun nm H1 hnm0 e1 hnm => ?_
  have hcs : canStand l ls = (let names := ls.map (·.name)
      if [114, 117, 110] ∈ names ∨ l.name ∈ names then false
      else if l.name ≠ [114, 117, 110] ∧ names.length = 12 then false
      else if l.name ∈ l.names ∨ (ls.any fun o => decide (l.name ∈ o.names)) = true then false
      else !(l.names.any fun n => decide (n ∈ names))) := rfl
  generalize hNM : ls.map (·.name) = NM at *
  dsimp only at hcs
  have name_ : ∀ {σ : L2.St} {G : Hp}, Ex H G → σ[0]? = some (some (.ref r.a)) → Ev (tFld K (tVar 0) "name") σ G (.str (S l.name)) := fun e hσ => ev_fld (ev_var hσ) (e _ _ hl.ins) L.cl L.n1 rfl
  refine q_when (b := decide ([114, 117, 110] ∈ NM ∨ l.name ∈ NM)) (et_is (et_or (a := decide ([114, 117, 110] ∈ NM)) (b := decide (l.name ∈ NM)) (et_is (et_test (ev_op ev_c (ev_var rfl) (rv_isL (sq_of hnm) rfl flat_map))) (by rw [lrun]; exact inV_map))
      fun _ => et_is (et_test (ev_op (name_ e1 rfl) (ev_var rfl) (rv_isL (sq_of hnm) rfl flat_map))) inV_map) (by simp)) (fun hb H2 e2 => ?_) (fun hb H2 e2 => ?_)
  · rw [if_pos (of_decide_eq_true hb)] at hcs
    rw [hcs] at k
    exact s_ret ev_c fun H3 e3 => k H3 ((e1.trans e2).trans e3)
  · rw [if_neg (of_decide_eq_false hb)] at hcs
    have e12 := e1.trans e2
    refine q_when (b := decide (l.name ≠ [114, 117, 110] ∧ NM.length = 12)) (et_is (et_and (a := !decide (l.name = [114, 117, 110])) (b := decide (NM.length = 12)) (et_is (et_test (ev_op (name_ e12 rfl) ev_c (rv_ne rfl))) (by rw [lrun, S_eqc]))
        fun _ => et_is (et_test (ev_op (ev_len (ev_var rfl) (sq_of (e2 _ _ hnm))) ev_c (rv_eq rfl))) (by
          refine decide_eq_decide.mpr ⟨fun z => ?_, fun z => ?_⟩
          · have z2 := V.int.inj z
            rw [List.length_map] at z2
            omega
          · rw [List.length_map, z]; rfl)) (by simp)) (fun hb2 H3 e3 => ?_) (fun hb2 H3 e3 => ?_)
    · rw [if_pos (of_decide_eq_true hb2)] at hcs
      rw [hcs] at k
      exact s_ret ev_c fun H4 e4 => k H4 ((e12.trans e3).trans e4)
    · rw [if_neg (of_decide_eq_false hb2)] at hcs
      have e13 := e12.trans e3
      have anyE : EvL (tLc (iList K (tVar 1)) (gName 3) tYes (tOp (rIn K false) (tFld K (tVar 0) "name") (tFld K (tVar 3) "names")) [3]) ([some (.ref r.a), some (.ref al), some (.ref nm), none, none] : L2.St) H3 ((ls.map fun o => decide (l.name ∈ o.names)).map V.bl) := by
        have g := el_lcL (K := K) (te := tOp (rIn K false) (tFld K (tVar 0) "name") (tFld K (tVar 3) "names")) (t := tYes) (j := 3) (vs := [3]) (σ := ([some (.ref r.a), some (.ref al), some (.ref nm), none, none] : L2.St)) (H := H3) (tl := tVar 1) (fun _ => true) (fun i => .bl (decide (l.name ∈ (lnth ls i).names))) (ev_var rfl) (sq_of (e13 _ _ hal)) (by rw [lx]; omega) (fun _ => rfl) (fun i x H4 e4 hx => fun H5 e5 Q q => q H5 (Ex.refl H5)) fun i x H4 e4 hx _ => by
          obtain ⟨hi, rfl⟩ := lrefs_at hls hx
          have la := (hls.at_ i hi).ex (e13.trans e4)
          exact ev_is (ev_op (name_ (e13.trans e4) rfl) (ev_fld (ev_var rfl) la.ins L.cl L.n4 rfl) (rv_isL (sq_of la.nm) rfl flat_map)) (by rw [inV_map])
        rw [lx, given_ls fun o => .bl (decide (l.name ∈ o.names))] at g
        rw [List.map_map]
        exact g
      have lal := hl.ex e13
      refine q_when (b := decide (l.name ∈ l.names ∨ (ls.any fun o => decide (l.name ∈ o.names)) = true)) (et_is (et_or (a := decide (l.name ∈ l.names)) (b := ls.any fun o => decide (l.name ∈ o.names)) (et_is (et_test (ev_op (name_ e13 rfl) (ev_fld (ev_var rfl) lal.ins L.cl L.n4 rfl) (rv_isL (sq_of lal.nm) rfl flat_map))) inV_map)
          fun _ => et_B (ev_is (ev_any anyE) (by rw [List.any_map]; rfl))) (by simp only [Bool.decide_or, Bool.decide_eq_true])) (fun hb3 H4 e4 => ?_) (fun hb3 H4 e4 => ?_)
      · rw [if_pos (of_decide_eq_true hb3)] at hcs
        rw [hcs] at k
        exact s_ret ev_c fun H5 e5 => k H5 ((e13.trans e4).trans e5)
      · rw [if_neg (of_decide_eq_false hb3)] at hcs
        have e14 := e13.trans e4
        have la4 := hl.ex e14
        have lnl : (l.names.map fun x => V.str (S x)).length = l.names.length := by simp
        have anyN : EvL (tLc (iList K (tFld K (tVar 0) "names")) (gName 4) tYes (tOp (rIn K false) (tVar 4) (tVar 2)) [4]) ([some (.ref r.a), some (.ref al), some (.ref nm), none, none] : L2.St) H4 ((l.names.map fun n => decide (n ∈ NM)).map V.bl) := by
          have g := el_lcL (K := K) (te := tOp (rIn K false) (tVar 4) (tVar 2)) (t := tYes) (j := 4) (vs := [4]) (σ := ([some (.ref r.a), some (.ref al), some (.ref nm), none, none] : L2.St)) (H := H4) (tl := tFld K (tVar 0) "names") (fun _ => true) (fun i => .bl (decide (l.names.getD i [] ∈ NM))) (ev_fld (ev_var rfl) la4.ins L.cl L.n4 rfl) (sq_of la4.nm) (by rw [lnl]; have := names_bd hl.bd; omega) (fun _ => rfl) (fun i x H5 e5 hx => fun H6 e6 Q q => q H6 (Ex.refl H6)) fun i x H5 e5 hx _ => by
            have hx2 : x = .str (S (l.names.getD i [])) := by
              rw [List.getElem?_map] at hx
              cases z : l.names[i]? with
              | none => rw [z] at hx; cases hx
              | some y => rw [z] at hx; rw [List.getD_eq_getElem?_getD, z]; exact (Option.some.inj hx).symm
            subst hx2
            exact ev_is (ev_op (ev_var rfl) (ev_var rfl) (rv_isL (sq_of ((((e2.trans e3).trans e4).trans e5) _ _ hnm)) rfl flat_map)) (by rw [inV_map])
          rw [lnl, given_ws fun x => .bl (decide (x ∈ NM))] at g
          rw [List.map_map]
          exact g
        rw [hcs] at k
        exact s_ret (ev_is (ev_notV (ev_any anyN)) (by rw [List.any_map]; rfl)) fun H5 e5 => k H5 (e14.trans e5)
end
end K5
set_option Elab.async false
set_option linter.all false
set_option maxRecDepth 100000
set_option maxHeartbeats 4000000
namespace K5
open PySem PySem.Spec PyProof.Rows L2 Evl Xl SX Mi
structure ErrC (K : PySem.W.Frag) (mg : Str → Option Value) (x : Str) (C fI : Addr) : Prop where
  mgC : mg x = some (.ref C)
  ox : OexC K C
  iC : PySem.W.findIn K (.ref C) "__init__" = some (some (.ref fI))
  tI : PySem.W.typeIn K (.ref fI) = some (.type "function")
  noV : PySem.W.findIn K (.ref C) "value" = some none
def spErr (K : PySem.W.Frag) : Sp := fun vs H Q _ => ∃ (a C : Addr) (v : V), vs = [.ref a, v] ∧ OexC K C ∧ PySem.W.findIn K (.ref C) "value" = some none ∧ H a = some (exo a C none) ∧ ∀ dx, H dx = none → dx ≠ a → Q .non (upd (upd H dx (exd dx [("value", v)])) a (exo a C (some dx)))
abbrev sErr : Stmt := inClass (top 2) 0
theorem scErr : FnScope ["self", "value"] ["self", "value"] (C8.fnScope sErr) := C8.fnScope_by (by decide +kernel)
section
variable {P : Program} {w : World} {K : PySem.W.Frag} {mg : Str → Option Value} {base : Heap} {f : Addr} {fd : FuncData}
theorem ok_err (F : C8.Fun K "__init__" "UseError.__init__" sErr f fd) : FnOk P w K mg base C8.CX0 1 f fd ["self", "value"] (spErr K) := by
  refine C8.fn0 F scErr (fun vs H Q E h => by obtain ⟨a, C, v, rfl, _⟩ := h; rfl) (fun cdv A outer s H vs Q E hr h => ?_)
  obtain ⟨a, C, v, rfl, ox, nv, ha, k⟩ := h
  refine ⟨_, pss_one (ps_ost (pv 0) (pv 1)), ?_⟩
  exact ⟨_, rfl, _, rfl, a, C, rfl, ox, nv, .inl ⟨ha, fun dx h1 h2 => k dx h1 h2⟩⟩
theorem r_err {C fI : Addr} {x : Str} {ta : TA} {σ : L2.St} {H : Hp} {v : V} {E : XK} (T : ErrC K mg x C fI) (h : EvA ta σ H [v]) (k : ∀ d H', Ex H H' → H d = none → H' d = some (.xd [("value", v)]) → E (.ref C) (some d) H') :
    tMkO C (spErr K) [] ta σ H fun cls d H' => E cls d H' := by
  refine h H (Ex.refl H) _ fun H1 e1 => ⟨by show 1 ≤ 1000; decide, fun a ha => ⟨a, C, v, rfl, T.ox, T.noV, upd_same, fun dx h1 h2 => ⟨rfl, dx, [("value", v)], upd_same, ?_, ?_, ?_⟩⟩⟩
  · exact (upd_ne h2).trans upd_same
  · exact (upd_ne h2).symm.trans h1
  · have hdx : H1 dx = none := (upd_ne h2).symm.trans h1
    refine k dx _ (fun c o hc => ?_) (fresh_back e1 hdx) upd_same
    have c1 : c ≠ a := fun z => by rw [z, fresh_back e1 ha] at hc; cases hc
    have c2 : c ≠ dx := fun z => by rw [z, fresh_back e1 hdx] at hc; cases hc
    rw [upd_ne c2]
    unfold del
    rw [if_neg c1, upd_ne c1, upd_ne c2, upd_ne c1]
    exact e1 _ _ hc
theorem fnX {x qual : Str} {st : Stmt} {N ps : List Str} {k : Nat} {sp : Sp} (F : C8.Fun K x qual st f fd) (S : FnScope N ps (C8.fnScope st)) (len : ∀ vs H Q E, sp vs H Q E → vs.length = ps.length)
    (hbody : ∀ (cdv : Value) (A : Around) (outer : List Env) (s : Shared) (H : Hp) (vs : List V) (Q : VK) (E : XK), Room k (A.deeper (envOfC qual (C8.fnScope st) s.heap.objs.size f cdv)) → sp vs H Q E →
      ∃ t, PSs (cxOf (L2.CX P w) P w K mg base N qual (C8.fnScope st) f cdv A outer s H E) (C8.fnBody st) t ∧ t { nx := fun _ H' => Q .non H', rt := Q } (start N vs) H) : FnOk P w K mg base (L2.CX P w) (k + 1) f fd ps sp := by
  obtain ⟨oc, od, dV, kV, doc, pm, an, cdv, ct, osl, rfl, lk, hcd⟩ := F.ex
  exact fn_of lk hcd S len fun A outer s H vs Q E hr hsp => hbody cdv A outer s H vs Q E hr hsp
end
theorem q_forE {K : PySem.W.Frag} {k₀ : Int} {te : TE} {σ : L2.St} {H : Hp} {xs : List V} {g : TG} {tu tz : TS} {D : Ends} (h : EvL te σ H xs) (Pv : Addr → Nat → L2.St → Hp → Prop) (h0 : ∀ a H1, H a = none → Ex H H1 → H1 a = some (.lst xs) → Pv a 0 σ H1)
    (hs : ∀ a i σ' H', Pv a i σ' H' → SqL K H' a xs)
    (ht : ∀ a i x σ' H' T, xs[i]? = some x → Pv a i σ' H' → H' T = none → g (.ref T) σ' (upd H' T (.tup [.int (k₀ + i), x])) fun σ2 H2 => tu { nx := Pv a (i + 1), rt := D.rt, bk := tz D, ct := Pv a (i + 1) } σ2 H2)
    (hd : ∀ a σ' H', Pv a xs.length σ' H' → tz D σ' H') : tSeq (tFor (Xe.iEnumK K k₀ (tCons te tNil)) g tu) tz D σ H :=
  h H (Ex.refl H) _ fun a H1 ha e1 hx => ⟨a, xs, rfl, sq_of hx, Xe.for_enumK (Pv a) (h0 a H1 ha e1 hx) (fun i σ' H' _ p => hs a i σ' H' p) (fun i x σ' H' T hx' p hT => ht a i x σ' H' T hx' p hT) fun σ' H' p => hd a σ' H' p⟩
theorem q_forEv {K : PySem.W.Frag} {k₀ : Int} {te : TE} {σ : L2.St} {H : Hp} {a : Addr} {xs : List V} {g : TG} {tu tz : TS} {D : Ends} (h : Ev te σ H (.ref a)) (hx : SqL K H a xs) (Pv : Nat → L2.St → Hp → Prop) (h0 : ∀ H1, Ex H H1 → Pv 0 σ H1)
    (hs : ∀ i σ' H', Pv i σ' H' → SqL K H' a xs)
    (ht : ∀ i x σ' H' T, xs[i]? = some x → Pv i σ' H' → H' T = none → g (.ref T) σ' (upd H' T (.tup [.int (k₀ + i), x])) fun σ2 H2 => tu { nx := Pv (i + 1), rt := D.rt, bk := tz D, ct := Pv (i + 1) } σ2 H2)
    (hd : ∀ σ' H', Pv xs.length σ' H' → tz D σ' H') : tSeq (tFor (Xe.iEnumK K k₀ (tCons te tNil)) g tu) tz D σ H :=
  h H (Ex.refl H) _ fun H1 e1 => ⟨a, xs, rfl, hx.imp (ex_rd e1) id, Xe.for_enumK Pv (h0 H1 e1) (fun i σ' H' _ p => hs i σ' H' p) (fun i x σ' H' T hx' p hT => ht i x σ' H' T hx' p hT) hd⟩
theorem g_two {K : PySem.W.Frag} {σ : L2.St} {H : Hp} {T : Addr} {x y : V} {i j : Nat} {R : L2.St → Hp → Prop} (hT : H T = some (.tup [x, y])) (k : R ((σ.set i (some x)).set j (some y)) H) : gTup K 2 (gCons (gName i) (gCons (gName j) gNil)) (.ref T) σ H R :=
  ⟨T, _, rfl, st_of hT, rfl, x, [y], rfl, y, [], rfl, rfl, k⟩
theorem cut_last {xs : List V} (h : xs ≠ []) : cutV xs none (some (-1)) = xs.dropLast := by
  have h1 : 1 ≤ xs.length := by cases xs with | nil => exact absurd rfl h | cons a b => simp
  unfold cutV
  rw [List.dropLast_eq_take]
  have a1 : HT.sIx xs.length 0 none = 0 := rfl
  have a2 : HT.sIx xs.length xs.length (some (-1)) = xs.length - 1 := by
    unfold HT.sIx
    simp
    omega
  rw [a1, a2]
  simp
end K5
set_option Elab.async false
set_option linter.all false
set_option maxRecDepth 100000
set_option maxHeartbeats 4000000
namespace K5
open PySem PySem.Spec PyProof.Rows L2 Evl Xl SX Mi
/-- the line's lists are not the list at p -/
def Apart (p : Addr) (r : LRec) (l : Ln) : Prop := r.nl ≠ p ∧ r.nm ≠ p ∧ ∀ i, i < l.nodes.length → (R r.rs i).w ≠ p
theorem LineAt.other {CL C p : Addr} {H : Hp} {r : LRec} {l : Ln} {xs ys : List V} (h : LineAt CL C H r l) (hp : H p = some (.lst xs)) (ap : Apart p r l) : LineAt CL C (upd H p (.lst ys)) r l := by
  have n1 : r.a ≠ p := fun z => by have := h.ins; rw [z, hp] at this; cases this
  exact ⟨(upd_ne n1).trans h.ins, h.nds.other hp ap.2.2, (upd_ne ap.1).trans h.nl, (upd_ne ap.2.1).trans h.nm, h.bd⟩
theorem LR_app {lrs : List LRec} {r : LRec} {i : Nat} (h : i < lrs.length) : LR (lrs ++ [r]) i = LR lrs i := by
  unfold LR
  simp [List.getD_eq_getElem?_getD, List.getElem?_append_left h]
theorem LR_new {lrs : List LRec} {r : LRec} : LR (lrs ++ [r]) lrs.length = r := by
  unfold LR
  simp [List.getD_eq_getElem?_getD]
theorem lnth_app {ls : List Ln} {l : Ln} {i : Nat} (h : i < ls.length) : lnth (ls ++ [l]) i = lnth ls i := by
  unfold lnth
  simp [List.getD_eq_getElem?_getD, List.getElem?_append_left h]
theorem lnth_new {ls : List Ln} {l : Ln} : lnth (ls ++ [l]) ls.length = l := by
  unfold lnth
  simp [List.getD_eq_getElem?_getD]
theorem Lns.add {CL C : Addr} {lrs : List LRec} {ls : List Ln} {H : Hp} {r : LRec} {l : Ln} (h : Lns CL C lrs ls H) (hl : LineAt CL C H r l) : Lns CL C (lrs ++ [r]) (ls ++ [l]) H := by
  refine ⟨by simp [h.len], fun i hi => ?_⟩
  by_cases z : i < ls.length
  · rw [LR_app (h.len ▸ z), lnth_app z]; exact h.at_ i z
  · have : i = ls.length := by simp at hi; omega
    subst this
    rw [lnth_new, ← h.len, LR_new]
    exact hl
theorem TyB_ex {K : PySem.W.Frag} {H H' : Hp} {x : V} {t : String} (h : TyB K H x t) (e : Ex H H') : TyB K H' x t := by
  cases h with
  | non => exact .non
  | bl b => exact .bl b
  | int i => exact .int i
  | str x => exact .str x
  | byt b => exact .byt b
  | lst h => exact .lst (h.imp (ex_rd e) id)
  | tup h => exact .tup (h.imp (ex_rd e) id)
  | dK h => exact .dK (e _ _ h)
theorem el_lst0 {σ : L2.St} {H : Hp} : EvL (tLst tNil) σ H [] := fun H1 e Q q => ⟨by show 0 ≤ sizeLine; decide, fun p hp => q p _ hp (ex_put hp (Ex.refl H1)) upd_same⟩
theorem getLastD_lnth {ls : List Ln} (h : ls ≠ []) : ls.getLastD default = lnth ls (ls.length - 1) := by
  unfold lnth
  have h1 : 1 ≤ ls.length := by cases ls with | nil => exact absurd rfl h | cons a b => simp
  rw [List.getD_eq_getElem?_getD, ← List.getLast?_eq_getElem?]
  cases ls with
  | nil => exact absurd rfl h
  | cons a b => simp [List.getLastD, List.getLast?]
theorem el_lnamesN {K : PySem.W.Frag} {mg : Str → Option Value} {CL C : Addr} {lrs : List LRec} {ls : List Ln} {H : Hp} {σ : L2.St} {tl : TE} {j : Nat} {vs : List Nat} (T : LineC K mg CL) (h : Lns CL C lrs ls H) (ht : EvL tl σ H (lrefs lrs)) (hl : ls.length ≤ 1000)
    (hw : ∀ y, wipe ((wipe σ vs).set j (some y)) vs = wipe σ vs) (hj : ∀ y, ((wipe σ vs).set j (some y))[j]? = some (some y)) : EvL (tLc (iList K tl) (gName j) tYes (tFld K (tVar j) "name") vs) σ H ((ls.map (·.name)).map fun x => .str (S x)) := by
  have lx : (lrefs lrs).length = ls.length := by unfold lrefs; rw [List.length_map, h.len]
  have g := el_lcNL (K := K) (te := tFld K (tVar j) "name") (t := tYes) (j := j) (vs := vs) (fun _ => true) (fun i => .str (S (lnth ls i).name)) ht (by rw [lx]; omega) hw (fun i x H1 e1 hx => fun H2 e2 Q q => q H2 (Ex.refl H2)) fun i x H1 e1 hx _ => by
    obtain ⟨hi, rfl⟩ := lrefs_at h hx
    exact ev_fld (ev_var (hj _)) (e1 _ _ (h.at_ i hi).ins) T.cl T.n1 rfl
  rw [lx, given_ls fun o => .str (S o.name)] at g
  rw [List.map_map]
  exact g
theorem Lns.drop {CL C : Addr} {lrs : List LRec} {ls : List Ln} {H : Hp} (h : Lns CL C lrs ls H) : Lns CL C lrs.dropLast ls.dropLast H := by
  refine ⟨by simp [h.len], fun i hi => ?_⟩
  have hi' : i < ls.length - 1 := by simpa using hi
  have e1 : LR lrs.dropLast i = LR lrs i := by
    unfold LR
    rw [List.getD_eq_getElem?_getD, List.getD_eq_getElem?_getD, List.getElem?_dropLast, if_pos (by rw [h.len]; omega)]
  have e2 : lnth ls.dropLast i = lnth ls i := by
    unfold lnth
    rw [List.getD_eq_getElem?_getD, List.getD_eq_getElem?_getD, List.getElem?_dropLast, if_pos hi']
  rw [e1, e2]
  exact h.at_ i (by omega)
theorem known_given {NM : List Wd} {l : Ln} : given l.nodes.length (fun i => decide ((nth l.nodes i).kind = [112, 97, 114, 116])) (fun i => .bl (decide ((nth l.nodes i).sign ∈ NM))) = (((l.nodes.filter fun n => decide (n.kind = [112, 97, 114, 116])).map fun n => decide (n.sign ∈ NM))).map V.bl := by
  unfold given
  conv => rhs; rw [nds_range (ns := l.nodes)]
  rw [List.filter_map, List.map_map, List.map_map]
  rfl
theorem known_all {NM : List Wd} {l : Ln} : ((l.nodes.filter fun n => decide (n.kind = [112, 97, 114, 116])).map fun n => decide (n.sign ∈ NM)).all id = known NM l := by
  unfold known
  rw [List.all_map, List.all_filter]
  rfl
/-- the state at a turn of the first loop -/
structure RI (CL C : Addr) (H0 G : Hp) (ll : Addr) (lrs : List LRec) (ls : List Ln) : Prop where
  lns : Lns CL C lrs ls G
  gl : G ll = some (.lst (lrefs lrs))
  ap : ∀ i, i < ls.length → Apart ll (LR lrs i) (lnth ls i)
  ex : Ex H0 G
  f1 : H0 ll = none
section
variable {P : Program} {w : World} {K : PySem.W.Frag} {mg : Str → Option Value} {base : Heap} {f : Addr} {fd : FuncData}
def spRP (K : PySem.W.Frag) (CB CL C : Addr) : Sp := fun vs H Q E => ∃ x, vs = [x] ∧
  ((∃ T, TyB K H x T ∧ T ≠ "str" ∧ ∀ d H', Ex H H' → H d = none → H' d = some (.xd [("value", .int 0)]) → E (.ref CB) (some d) H') ∨
  ∃ text : Wd, x = .str (S text) ∧ (text.length ≤ 9000 ∧ (TL.spl [10] 0 [] text).length ≤ 901) ∧ (∀ e, readProg text = .error e → ∀ d H', Ex H H' → H d = none → H' d = some (.xd [("value", .int (e : Nat))]) → E (.ref CB) (some d) H') ∧
    ∀ ls, readProg text = .ok ls → ∀ (lrs : List LRec) (ll : Addr) (H' : Hp), Ex H H' → Lns CL C lrs ls H' → H' ll = some (.lst (lrefs lrs)) → H ll = none → ls ≠ [] → ls.length ≤ 1000 → Q (.ref ll) H')
abbrev nP : List Str := ["text", "lines", "number", "told", "line", "names", "node"]
theorem scP : FnScope nP ["text"] (C8.fnScope (top 30)) := C8.fnScope_by (by decide +kernel)
theorem ok_read_program {CB fI CL C : Addr} {fdI : FuncData} (F : C8.Def K mg "read_program" (top 30) f fd) (b : Binds K fd ["text"] []) (T : Txt2 K w mg) (N : NodeC K mg C) (L : LineC K mg CL) (B : ErrC K mg "BadProgram" CB fI) (FE : FnOk P w K mg base C8.CX0 1 fI fdI ["self", "value"] (spErr K)) (bE : Binds K fdI ["self", "value"] [])
    (cT : C8.Cal P w K mg base 1 "is_text" (spIsText K) []) (cR : C8.Cal P w K mg base 5 "read_line" (spRL CL C) []) (cC : C8.Cal P w K mg base 1 "can_stand" (spCan CL C) []) : FnOk P w K mg base (L2.CX P w) 6 f fd ["text"] (spRP K CB CL C) := by
  refine fnX F.fn scP (fun vs H Q E h => by obtain ⟨x, rfl, _⟩ := h; rfl) (fun cdv A outer s H vs Q E hr h => ?_)
  obtain ⟨x, rfl, h⟩ := h
  refine ⟨_, pss_cons (ps_if (pt_not (pt_val (C8.pe_c cT hr (by decide) (by rfl) (pa_cons (pv 0) pa_nil)))) (pss_one (ps_raise rfl (takes_of rfl rfl rfl rfl) (pmk_oex B.ox B.iC B.tI FE (hr.mono (by decide)) bE .nil C8.pass0 (by rfl) B.mgC (pa_cons pe_int pa_nil)))) pss_nil)
    (pss_cons (ps_set (i := 1) scP.nd rfl (Or.inl rfl) (pe_lst pa_nil))
    (pss_cons (ps_for PassesOwn.leaving rfl (Xe.pi_enumK (by rfl) T.enum_ (by decide) (pa_cons (pe_split (pv 0) pe_str) pa_nil)) (pg_tup (by rfl) (pgs_cons (pg_name (i := 2) scP.nd rfl (.inl rfl)) (pgs_cons (pg_name (i := 3) scP.nd rfl (.inl rfl)) pgs_nil)))
      (pss_cons (ps_set (i := 4) scP.nd rfl (Or.inl rfl) (C8.pe_c cR hr (by decide) (by rfl) (pa_cons (pv 3) pa_nil)))
      (pss_cons (ps_if (pw_or (pt_cmp (pc_isN (pv 4))) (pw_or1 (pt_not (pt_val (C8.pe_c cC hr (by decide) (by rfl) (pa_cons (pv 4) (pa_cons (pv 1) pa_nil))))))).pt
          (pss_one (ps_raise rfl (takes_of rfl rfl rfl rfl) (pmk_oex B.ox B.iC B.tI FE (hr.mono (by decide)) bE .nil C8.pass0 (by rfl) B.mgC (pa_cons (pv 2) pa_nil)))) pss_nil)
      (pss_one (ps_expr (pe_bm PySem.F.plainAttrs_list PySem.F.slot_list_append PySem.F.type_list_append mt_append (pv 1) (pa_cons (pv 4) pa_nil)))))))
    (pss_cons (ps_if (pt_cmpR op_ne (pe_fld (pe_ix ix_list (pv 1) (pe_un un_neg pe_int) (fun _ _ => rfl)) rfl) pe_str (nomark _))
        (pss_one (ps_raise rfl (takes_of rfl rfl rfl rfl) (pmk_oex B.ox B.iC B.tI FE (hr.mono (by decide)) bE .nil C8.pass0 (by rfl) B.mgC (pa_cons (pe_op op_add (pe_callB call_len_seq (by rfl) T.len_ boot_len (pa_cons (pv 1) pa_nil)) pe_int) pa_nil)))) pss_nil)
    (pss_cons (ps_set (i := 5) scP.nd rfl (Or.inr rfl) (pe_lc (own := [("line", 4)]) (g := gName 4) (tt := tYes) (te := tFld K (tVar 4) "name") rfl scP.nd (pi_list (pe_slice sl_list (pv 1) po_none (po_some (pe_un un_neg pe_int)))) (blkOk_by (N := nP) (sc := C8.fnScope (top 30)) (by decide +kernel))
          (fun _ _ _ _ _ => pg_name (i := 4) scP.nd rfl (Or.inl rfl)) (fun _ _ _ _ _ => pts_nil) (fun _ _ _ _ _ => pe_fld (pv 4) (by rfl))))
    (pss_cons (ps_for PassesOwn.leaving rfl (Xe.pi_enumK (by rfl) T.enum_ (by decide) (pa_cons (pv 1) pa_nil)) (pg_tup (by rfl) (pgs_cons (pg_name (i := 2) scP.nd rfl (.inl rfl)) (pgs_cons (pg_name (i := 4) scP.nd rfl (.inl rfl)) pgs_nil)))
      (pss_one (ps_if (pt_not (pt_val (pe_callB (cr_all rfl) (by rfl) T.all_ boot_all (pa_cons (pe_lc (own := [("node", 6)]) (g := gName 6) (tt := tTest (tOp rEq (tFld K (tVar 6) "kind") (tC (.str "part")))) (te := tOp (rIn K false) (tFld K (tVar 6) "sign") (tVar 5)) rfl scP.nd (pi_list (pe_fld (pv 4) rfl)) (blkOk_by (N := nP) (sc := C8.fnScope (top 30)) (by decide +kernel))
            (fun _ _ _ _ _ => pg_name (i := 6) scP.nd rfl (Or.inl rfl)) (fun _ _ _ _ _ => pts_one (pt_cmpR op_eq (pe_fld (pv 6) (by rfl)) pe_str (nomark _))) (fun _ _ _ _ _ => pe_cmpR op_in_seq (pe_fld (pv 6) (by rfl)) (pv 5) rfl)) pa_nil))))
          (pss_one (ps_raise rfl (takes_of rfl rfl rfl rfl) (pmk_oex B.ox B.iC B.tI FE (hr.mono (by decide)) bE .nil C8.pass0 (by rfl) B.mgC (pa_cons (pv 2) pa_nil)))) pss_nil)))
    (pss_one (ps_ret (pv 1)))))))), ?_⟩
  have lrun : (Str.ofString "run" : Str) = S [114, 117, 110] := by decide
  have lpart : (Str.ofString "part" : Str) = S [112, 97, 114, 116] := by decide
  have lnlf : (Str.ofString "\n" : Str) = S [10] := by decide
  rcases h with ⟨t, ht, hne, k⟩ | ⟨text, rfl, hlt, kE, kQ⟩
  · refine q_when (b := true) (et_is (et_not (et_B (b := false) (ev_call (ea_cons (ev_var rfl) ea_nil) fun H1 e1 Q' q E' => ⟨x, t, rfl, TyB_ex ht e1, by rw [decide_eq_false hne]; exact q H1 (Ex.refl H1)⟩))) rfl) (fun _ H1 e1 => ?_) (fun z => (by cases z))
    exact r_err B (ea_cons ev_c ea_nil) fun d H' e hd hd' => k d H' (e1.trans e) (fresh_back e1 hd) hd'
  · refine q_when (b := false) (et_is (et_not (et_B (b := true) (ev_call (ea_cons (ev_var rfl) ea_nil) fun H1 e1 Q' q E' => ⟨.str (S text), "str", rfl, .str _, by rw [decide_eq_true rfl]; exact q H1 (Ex.refl H1)⟩))) rfl) (fun z => (by cases z)) (fun _ H1 e1 => ?_)
    refine q_asgL el_lst0 fun ll H2 hll e2 hl2 => ?_
    have e12 := e1.trans e2
    have hll0 : H ll = none := fresh_back e1 hll
    have hw1 : 1 ≤ (TL.spl [10] 0 [] text).length := by
      cases z : TL.spl [10] 0 [] text with
      | nil => exact absurd z spl_ne
      | cons a b => simp
    have hwl : ∀ y ∈ TL.spl [10] 0 [] text, y.length ≤ 9000 := fun y hy => by have hlt0 := hlt.1; have := (@spl_len [10] text 0 []).2 y hy; simp at this; omega
    have hw2 : (TL.spl [10] 0 [] text).length ≤ 901 := hlt.2
    have hlt1 := hlt.1
    have hrp : readProg text = (match linesM (TL.spl [10] 0 [] text) [] with
        | .error e => .error e
        | .ok ls => if (ls.getLastD default).name ≠ [114, 117, 110] then .error (ls.length + 1)
          else match firstUnknown (ls.dropLast.map (·.name)) 1 ls with
            | some k => .error k
            | none => .ok ls) := rfl
    generalize hts : TL.spl [10] 0 [] text = ts at *
    have lts : (ts.map fun x => V.str (S x)).length = ts.length := by simp
    refine q_forE (K := K) (xs := ts.map fun x => V.str (S x)) (by rw [← hts]; exact el_split (ev_var rfl) (by rw [← lnlf]; exact ev_c) (by decide) (by decide) (by omega))
      (fun a i σ G => G a = some (.lst (ts.map fun x => V.str (S x))) ∧ ∃ (lrs : List LRec) (ls : List Ln) (u v z : Option V), σ = [some (.str (S text)), some (.ref ll), u, v, z, none, none] ∧ RI CL C H G ll lrs ls ∧ a ≠ ll ∧ ls.length = i ∧ linesM ts [] = linesM (ts.drop i) ls) ?_ (fun a i σ G h => sq_of h.1) ?_ ?_
    · intro a H3 ha e3 ha3
      refine ⟨ha3, [], [], none, none, none, rfl, ⟨⟨rfl, fun i hi => by simp at hi⟩, e3 _ _ hl2, fun i hi => by simp at hi, e12.trans e3, hll0⟩, (fun z => (by rw [z, hl2] at ha; cases ha)), rfl, rfl⟩
    · rintro a i x σ' G T0 hx ⟨hGa, lrs, ls, u, v, z, rfl, h, hal, hli, hlm⟩ hT0
      obtain ⟨told, htold, rfl⟩ : ∃ told, ts[i]? = some told ∧ x = .str (S told) := by
        rw [List.getElem?_map] at hx
        cases q : ts[i]? with
        | none => rw [q] at hx; cases hx
        | some y => rw [q] at hx; exact ⟨y, rfl, (Option.some.inj hx).symm⟩
      have hi : i < ts.length := (List.getElem?_eq_some_iff.mp htold).1
      have hdrop : ts.drop i = told :: ts.drop (i + 1) := by
        rw [List.drop_eq_getElem_cons hi]
        have := (List.getElem?_eq_some_iff.mp htold).2
        rw [this]
      have htl : told.length ≤ 9000 := hwl _ (List.mem_of_getElem? htold)
      rw [hdrop] at hlm
      have exT : Ex G (upd G T0 (.tup [.int (1 + (i : Int)), .str (S told)])) := ex_put hT0 (Ex.refl G)
      refine g_two upd_same ?_
      have hnum : (1 + (i : Int)) = ((ls.length + 1 : Nat) : Int) := by rw [hli]; push_cast; omega
      -- what a refusal comes to
      have bad : ∀ {J : Hp} {st : L2.St}, Ex G J → linesM ts [] = .error (ls.length + 1) → st[2]? = some (some (.int (1 + (i : Int)))) → tMkO CB (spErr K) [] (tCons (tVar 2) tNil) st J fun cls d H' => E cls d H' := fun {J st} eJ hm hst => by
        refine r_err B (ea_cons (ev_var hst) ea_nil) fun d H' e hd hd' => ?_
        rw [hm] at hrp
        rw [hnum] at hd'
        exact kE _ hrp d H' ((h.ex.trans eJ).trans e) (fresh_back (h.ex.trans eJ) hd) hd'
      refine q_callA (vs := [.str (S told)]) (ea_cons (ev_var rfl) ea_nil) fun H3 e3 => ?_
      have eG3 := exT.trans e3
      refine ⟨told, rfl, htl, fun hn H4 e4 => ?_, fun l hn r H4 e4 hl4 hfw hfa hfl hfm => ?_⟩
      · refine q_when (b := true) (et_is (et_or (a := true) (b := true) (et_in (ev_var rfl)) fun z => (by cases z)) rfl) (fun _ H5 e5 => ?_) (fun z => (by cases z))
        refine bad ((eG3.trans e4).trans e5) ?_ rfl
        rw [hlm]
        show (match readLine told with
          | none => Except.error (ls.length + 1)
          | some l => if canStand l ls then linesM (ts.drop (i + 1)) (ls ++ [l]) else .error (ls.length + 1)) = _
        rw [hn]
      · have eG4 := eG3.trans e4
        have hgl4 := eG4 _ _ h.gl
        have hlm2 : linesM ts [] = if canStand l ls then linesM (ts.drop (i + 1)) (ls ++ [l]) else .error (ls.length + 1) := by
          rw [hlm]
          show (match readLine told with
            | none => Except.error (ls.length + 1)
            | some l => if canStand l ls then linesM (ts.drop (i + 1)) (ls ++ [l]) else .error (ls.length + 1)) = _
          rw [hn]
        refine q_when (b := !canStand l ls) (et_is (et_or (a := false) (b := !canStand l ls) (et_ir (ev_var rfl)) fun _ => et_not (et_B (ev_call (ea_cons (ev_var rfl) (ea_cons (ev_var rfl) ea_nil)) fun H5 e5 Q' q E' => ⟨r, l, lrs, ls, ll, rfl, hl4.ex e5, h.lns.ex (eG4.trans e5), e5 _ _ hgl4, by omega, q⟩))) rfl) (fun hb H5 e5 => ?_) (fun hb H5 e5 => ?_)
        · refine bad (eG4.trans e5) ?_ rfl
          rw [hlm2]
          have : canStand l ls = false := by simpa using hb
          rw [this]
          rfl
        · have hcs : canStand l ls = true := by simpa using hb
          rw [hcs] at hlm2
          have eG5 := eG4.trans e5
          have lxr : (lrefs lrs).length = ls.length := by unfold lrefs; rw [List.length_map, h.lns.len]
          refine s_app (eG5 _ _ h.gl) (ev_var rfl) (ev_var rfl) (by rw [lxr]; omega) fun H6 e6 => ?_
          have eG6 := eG5.trans e6
          have sep : ∀ {c : Addr}, H3 c = none → c ≠ ll := fun hc z => by rw [z, eG3 _ _ h.gl] at hc; cases hc
          have apn : Apart ll r l := ⟨sep hfl, sep hfm, fun j hj => sep (hfw j hj)⟩
          have apo : ∀ j, j < (ls ++ [l]).length → Apart ll (LR (lrs ++ [r]) j) (lnth (ls ++ [l]) j) := fun j hj => by
            by_cases z : j < ls.length
            · rw [LR_app (h.lns.len ▸ z), lnth_app z]; exact h.ap j z
            · have : j = ls.length := by simp at hj; omega
              subst this
              rw [lnth_new, ← h.lns.len, LR_new]
              exact apn
          have lns6 : Lns CL C (lrs ++ [r]) (ls ++ [l]) H6 := (h.lns.ex eG6).add (hl4.ex (e5.trans e6))
          refine ⟨(upd_ne hal).trans (eG6 _ _ hGa), lrs ++ [r], ls ++ [l], _, _, _, rfl, ⟨⟨lns6.len, fun j hj => (lns6.at_ j hj).other (eG6 _ _ h.gl) (apo j hj)⟩, ?_, apo, ex_put h.f1 (h.ex.trans eG6), h.f1⟩, hal, by simp [hli], hlm2⟩
          rw [upd_same]
          unfold lrefs
          rw [List.map_append]
          rfl
    · rintro a σ' G ⟨hGa, lrs, ls, u, v, z, rfl, h, hal, hli, hlm⟩
      rw [lts] at hli hlm
      have hlm3 : linesM ts [] = .ok ls := by
        rw [hlm, List.drop_length]
        rfl
      rw [hlm3] at hrp
      dsimp only at hrp
      have hne : ls ≠ [] := fun z => by rw [z] at hli; simp at hli; omega
      have h1l : 1 ≤ ls.length := by omega
      have lxr : (lrefs lrs).length = ls.length := by unfold lrefs; rw [List.length_map, h.lns.len]
      rw [getLastD_lnth hne] at hrp
      have lastA : (lrefs lrs).getLast? = some (.ref (LR lrs (ls.length - 1)).a) := by
        unfold lrefs LR
        rw [List.getLast?_map, List.getLast?_eq_getElem?, h.lns.len, List.getD_eq_getElem?_getD]
        have : ls.length - 1 < lrs.length := by rw [h.lns.len]; omega
        simp [this]
      have lal := (h.lns.at_ (ls.length - 1) (by omega))
      have vlast : ∀ {J : Hp} {st : L2.St}, Ex G J → st[1]? = some (some (.ref ll)) → Ev (tOp (rIxL K) (tVar 1) (tUn (rU fun i => V.int (-i)) (tC (V.int 1)))) st J (.ref (LR lrs (ls.length - 1)).a) := fun eJ hst => ev_op (ev_var hst) (ev_un ev_c ru_neg) (rv_ixL (sq_of (eJ _ _ h.gl)) (atI_last lastA))
      refine q_when (b := !decide ((lnth ls (ls.length - 1)).name = [114, 117, 110])) (et_is (et_test (ev_op (ev_fld (vlast (Ex.refl G) rfl) lal.ins L.cl L.n1 rfl) ev_c (rv_ne rfl))) (by rw [lrun, S_eqc])) (fun hb H3 e3 => ?_) (fun hb H3 e3 => ?_)
      · have hb' : (lnth ls (ls.length - 1)).name ≠ [114, 117, 110] := by simpa using hb
        rw [if_pos hb'] at hrp
        refine r_err (v := .int ((ls.length + 1 : Nat) : Int)) B (ea_cons (ev_is (ev_op (ev_len (ev_var rfl) (sq_of (e3 _ _ h.gl))) ev_c rv_I0) (by rw [lxr]; push_cast; rfl)) ea_nil) fun d H' e hd hd' => ?_
        exact kE _ hrp d H' ((h.ex.trans e3).trans e) (fresh_back (h.ex.trans e3) hd) hd'
      · have hb' : ¬ (lnth ls (ls.length - 1)).name ≠ [114, 117, 110] := by simpa using hb
        rw [if_neg hb'] at hrp
        have hcut : cutV (lrefs lrs) none (some (-1)) = lrefs lrs.dropLast := by
          rw [cut_last (fun z => by rw [z] at lxr; simp at lxr; omega)]
          unfold lrefs
          rw [List.map_dropLast]
        have nmE : EvL (tLc (iList K (tSl (rSlL K) (tVar 1) tNoPart (tPart (tUn (rU fun i => V.int (-i)) (tC (V.int 1)))))) (gName 4) tYes (tFld K (tVar 4) "name") [4]) ([some (.str (S text)), some (.ref ll), u, v, z, none, none] : L2.St) H3 ((ls.dropLast.map (·.name)).map fun x => .str (S x)) :=
          el_lnamesN L (h.lns.ex e3).drop (by rw [← hcut]; exact el_sl (ev_var rfl) eo_none (eo_some (ev_un ev_c ru_neg)) (sq_of (e3 _ _ h.gl))) (by simp; omega) (fun _ => rfl) (fun _ => rfl)
        refine q_asgL nmE fun nm H4 hnm0 e4 hnm4 => ?_
        have eG4 := e3.trans e4
        generalize hNM : ls.dropLast.map (·.name) = NM at *
        refine q_forEv (K := K) (a := ll) (xs := lrefs lrs) (ev_var rfl) (sq_of (eG4 _ _ h.gl)) (fun i σ G' => (∃ u v z, σ = [some (.str (S text)), some (.ref ll), u, v, z, some (.ref nm), none]) ∧ Ex H4 G' ∧ firstUnknown NM 1 ls = firstUnknown NM (1 + i) (ls.drop i)) (fun H5 e5 => ⟨⟨_, _, _, rfl⟩, e5, rfl⟩) (fun i σ G' hp => sq_of ((eG4.trans hp.2.1) _ _ h.gl)) ?_ ?_
        · rintro i x σ' G' T0 hx ⟨⟨u', v', z', rfl⟩, eG', hfu⟩ hT0
          obtain ⟨hi, rfl⟩ := lrefs_at h.lns hx
          have hdrop : ls.drop i = lnth ls i :: ls.drop (i + 1) := by
            rw [List.drop_eq_getElem_cons hi]
            unfold lnth
            rw [List.getD_eq_getElem?_getD, List.getElem?_eq_getElem hi]
            rfl
          rw [hdrop] at hfu
          refine g_two upd_same ?_
          have exT := ex_put (o := .tup [.int (1 + (i : Int)), .ref (LR lrs i).a]) hT0 (Ex.refl G')
          have eGT := (eG4.trans eG').trans exT
          have la := (h.lns.at_ i hi).ex eGT
          have lN := la.nds
          have lxn : (refs (LR lrs i).rs (List.range (lnth ls i).nodes.length)).length = (lnth ls i).nodes.length := by unfold refs; rw [List.length_map, List.length_range]
          have at_j : ∀ {j : Nat} {x : V}, (refs (LR lrs i).rs (List.range (lnth ls i).nodes.length))[j]? = some x → j < (lnth ls i).nodes.length ∧ x = .ref (R (LR lrs i).rs j).a := fun {j x} hv => by
            have hj : j < (lnth ls i).nodes.length := by
              have := (List.getElem?_eq_some_iff.mp hv).1
              rw [lxn] at this
              exact this
            unfold refs at hv
            rw [List.getElem?_map, List.getElem?_range hj] at hv
            exact ⟨hj, (Option.some.inj hv).symm⟩
          have allE : EvL (tLc (iList K (tFld K (tVar 4) "nodes")) (gName 6) (tTest (tOp rEq (tFld K (tVar 6) "kind") (tC (.str "part")))) (tOp (rIn K false) (tFld K (tVar 6) "sign") (tVar 5)) [6]) ([some (.str (S text)), some (.ref ll), some (.int (1 + (i : Int))), v', some (.ref (LR lrs i).a), some (.ref nm), none] : L2.St) (upd G' T0 (.tup [.int (1 + (i : Int)), .ref (LR lrs i).a]))
              (((((lnth ls i).nodes.filter fun n => decide (n.kind = [112, 97, 114, 116])).map fun n => decide (n.sign ∈ NM))).map V.bl) := by
            have g := el_lcL (K := K) (te := tOp (rIn K false) (tFld K (tVar 6) "sign") (tVar 5)) (t := tTest (tOp rEq (tFld K (tVar 6) "kind") (tC (.str "part")))) (j := 6) (vs := [6]) (σ := ([some (.str (S text)), some (.ref ll), some (.int (1 + (i : Int))), v', some (.ref (LR lrs i).a), some (.ref nm), none] : L2.St)) (H := upd G' T0 (.tup [.int (1 + (i : Int)), .ref (LR lrs i).a])) (tl := tFld K (tVar 4) "nodes")
              (fun j => decide ((nth (lnth ls i).nodes j).kind = [112, 97, 114, 116])) (fun j => .bl (decide ((nth (lnth ls i).nodes j).sign ∈ NM))) (ev_fld (ev_var rfl) la.ins L.cl L.n3 rfl) (sq_of la.nl) (by rw [lxn]; have := la.bd; omega) (fun _ => rfl) (fun j x H5 e5 hx => by
                obtain ⟨hj, rfl⟩ := at_j hx
                exact et_is (et_test (ev_op (ev_fld (ev_var rfl) (e5 _ _ (lN.at_ j hj).ins) N.cl N.n3 rfl) ev_c (rv_eq rfl))) (by rw [lpart]; exact S_eqc)) fun j x H5 e5 hx _ => by
                obtain ⟨hj, rfl⟩ := at_j hx
                exact ev_is (ev_op (ev_fld (ev_var rfl) (e5 _ _ (lN.at_ j hj).ins) N.cl N.n2 rfl) (ev_var rfl) (rv_isL (sq_of (((eG'.trans exT).trans e5) _ _ hnm4)) rfl flat_map)) (by rw [inV_map])
            rw [lxn, known_given] at g
            exact g
          refine s_when (b := !known NM (lnth ls i)) (et_not (et_is (et_B (ev_all allE)) known_all)) (fun hb5 H5 e5 => ?_) (fun hb5 H5 e5 => ?_)
          · have hk : known NM (lnth ls i) = false := by simpa using hb5
            have hfu2 : firstUnknown NM 1 ls = some (1 + i) := by
              rw [hfu]
              unfold firstUnknown
              rw [hk]
              rfl
            rw [hfu2] at hrp
            refine r_err (v := .int ((1 + i : Nat) : Int)) B (ea_cons (ev_is (ev_var rfl) (by push_cast; rfl)) ea_nil) fun d H' e hd hd' => ?_
            exact kE _ hrp d H' (((h.ex.trans eGT).trans e5).trans e) (fresh_back ((h.ex.trans eGT).trans e5) hd) hd'
          · have hk : known NM (lnth ls i) = true := by simpa using hb5
            refine ⟨⟨_, _, _, rfl⟩, (eG'.trans exT).trans e5, ?_⟩
            rw [hfu]
            conv => lhs; unfold firstUnknown
            rw [hk]
            rfl
        · rintro σ' G' ⟨⟨u', v', z', rfl⟩, eG', hfu⟩
          rw [lxr, List.drop_length] at hfu
          have hfu2 : firstUnknown NM 1 ls = none := hfu
          rw [hfu2] at hrp
          refine s_ret (ev_var rfl) fun H6 e6 => ?_
          have eA := (eG4.trans eG').trans e6
          exact kQ ls hrp lrs ll H6 (h.ex.trans eA) (h.lns.ex eA) (eA _ _ h.gl) h.f1 hne (by omega)
end
end K5
set_option Elab.async false
set_option linter.all false
set_option maxRecDepth 100000
set_option maxHeartbeats 4000000
namespace K5
open PySem PySem.Spec PyProof.Rows L2 Evl Xl SX Mi
structure ProgC (K : PySem.W.Frag) (mg : Str → Option Value) (C : Addr) : Prop where
  cl : Cls K C
  mgC : mg "Program" = some (.ref C)
  n1 : NoAttr K C "_text"
  n2 : NoAttr K C "_lines"
  n3 : NoAttr K C "_parts"
  n4 : NoAttr K C "nodes"
  n5 : NoAttr K C "_places"
  n6 : NoAttr K C "_bindings"
theorem Nds.keep {CP dx C p : Addr} {nm : V} {rs : List Rec} {ns : List Nd} {H H' : Hp} (hp : H p = some (.ins CP dx [])) (k : Keep (fun c => c = p) H H') (h : Nds C nm rs ns H) : Nds C nm rs ns H' := by
  have ne : ∀ {c : Addr} {o : HO}, H c = some o → o ≠ .ins CP dx [] → c ≠ p := fun hc ho z => by rw [z, hp] at hc; exact ho (Option.some.inj hc).symm
  exact ⟨h.len, fun i hi => ⟨k _ _ (ne (h.at_ i hi).ins fun z => by cases z) (h.at_ i hi).ins, k _ _ (ne (h.at_ i hi).tup fun z => by cases z) (h.at_ i hi).tup, k _ _ (ne (h.at_ i hi).win fun z => by cases z) (h.at_ i hi).win⟩, h.ia, h.iw⟩
theorem Lns.keep {CP dx CL C p : Addr} {lrs : List LRec} {ls : List Ln} {H H' : Hp} (hp : H p = some (.ins CP dx [])) (k : Keep (fun c => c = p) H H') (h : Lns CL C lrs ls H) : Lns CL C lrs ls H' := by
  have ne : ∀ {c : Addr} {o : HO}, H c = some o → o ≠ .ins CP dx [] → c ≠ p := fun hc ho z => by rw [z, hp] at hc; exact ho (Option.some.inj hc).symm
  refine ⟨h.len, fun i hi => ?_⟩
  have l := h.at_ i hi
  exact ⟨k _ _ (ne l.ins fun z => by cases z) l.ins, l.nds.keep hp k, k _ _ (ne l.nl fun z => by cases z) l.nl, k _ _ (ne l.nm fun z => by cases z) l.nm, l.bd⟩
/-- a walk, turn by turn -/
theorem comp_walk {J : It} {n : Nat} {Gd : Hp → Prop} {Y : Nat → Hp → V → Hp → Prop} {H0 : Hp} {Qd : Hp → Prop} {body : V → Hp → (Hp → Prop) → Prop} (wk : Walk J n Gd Y) (Pv : Nat → Hp → Prop) (h0 : Pv 0 H0) (hg : ∀ i H, i ≤ n → Pv i H → Gd H)
    (ht : ∀ i H x H', i < n → Pv i H → Y i H x H' → body x H' (Pv (i + 1))) (hd : ∀ H, Pv n H → Qd H) :
    ∃ W : Nat → Nat → Hp → Prop, (∃ m, W 0 m H0) ∧ ∀ i m H, W i m H → J.stop i H ∧ Qd H ∨ J.go i H ∧ ∃ Nx : Hp → Prop, (∀ H', Nx H' → ∃ m', m' < m ∧ W (i + 1) m' H') ∧ ∀ x H', J.yld i H x H' → body x H' Nx := by
  refine ⟨fun i m H => i ≤ n ∧ m = n - i ∧ Pv i H, ⟨n, Nat.zero_le _, rfl, h0⟩, fun i m H ⟨hi, hm, hp⟩ => ?_⟩
  by_cases z : i < n
  · exact .inr ⟨wk.goes i H z (hg i H hi hp), Pv (i + 1), fun H' p' => ⟨n - (i + 1), by omega, by omega, rfl, p'⟩, fun x H' hy => ht i H x H' z hp (wk.yields i H x H' z (hg i H hi hp) hy)⟩
  · have : i = n := by omega
    subst this
    exact .inl ⟨wk.stops H (hg i H hi hp), hd H hp⟩
/-- an expression that has some value of which Pd tells -/
def EvP (te : TE) (σ : L2.St) (H : Hp) (Pd : V → Hp → Prop) : Prop := ∀ Q : VK, (∀ v H1, Ex H H1 → Pd v H1 → Q v H1) → te σ H Q
theorem q_fldP {K : PySem.W.Frag} {ta te : TE} {σ : L2.St} {H : Hp} {f : Str} {a C dx : Addr} {fs : List (Str × V)} {Pd : V → Hp → Prop} {D : Ends} {tz : TS} (ha : H a = some (.ins C dx fs)) (h0 : Ev ta σ H (.ref a)) (h : EvP te σ H Pd) (hc : Cls K C) (hn : NoAttr K C f) (hl : fs.length < 1000) (hP : ∀ v H1 H2, Ex H H1 → Ex H1 H2 → Pd v H1 → Pd v H2)
    (k : ∀ v H1, Ex H H1 → Pd v H1 → tz D σ (upd H1 a (.ins C dx (putF f v fs)))) : tSeq (sFld K ta te f) tz D σ H :=
  h _ fun v H1 e1 hv => h0 H1 e1 _ fun H2 e2 => ⟨a, C, dx, fs, rfl, e2 _ _ (e1 _ _ ha), hc, hn, hl, k v H2 (e1.trans e2) (hP v H1 H2 e1 e2 hv)⟩
theorem s_fldP {K : PySem.W.Frag} {ta te : TE} {σ : L2.St} {H : Hp} {f : Str} {a C dx : Addr} {fs : List (Str × V)} {Pd : V → Hp → Prop} {D : Ends} (ha : H a = some (.ins C dx fs)) (h0 : Ev ta σ H (.ref a)) (h : EvP te σ H Pd) (hc : Cls K C) (hn : NoAttr K C f) (hl : fs.length < 1000)
    (k : ∀ v H1, Ex H H1 → D.nx σ (upd H1 a (.ins C dx (putF f v fs)))) : sFld K ta te f D σ H :=
  h _ fun v H1 e1 hv => h0 H1 e1 _ fun H2 e2 => ⟨a, C, dx, fs, rfl, e2 _ _ (e1 _ _ ha), hc, hn, hl, k v H2 (e1.trans e2)⟩
theorem mem_putK' {κ : Type} [DecidableEq κ] {kvs : List (κ × V)} {k : κ} {v : V} {kv : κ × V} (h : kv ∈ putK kvs k v) : kv ∈ kvs ∨ kv.2 = v := by
  unfold putK at h
  split at h
  · obtain ⟨q, hq, e⟩ := List.mem_map.mp h
    split at e
    · right; rw [← e]
    · left; rw [← e]; exact hq
  · rcases List.mem_append.mp h with h | h
    · exact .inl h
    · right
      rw [List.mem_singleton.mp h]
theorem evP_tup {K : PySem.W.Frag} {te : TE} {σ : L2.St} {H : Hp} (h : EvP te σ H fun v H1 => ∃ p xs, v = .ref p ∧ H1 p = some (.lst xs)) : EvP (tThen te (kTup K)) σ H fun _ _ => True :=
  fun Q q => h _ fun v H1 e1 ⟨p, xs, hv, hp⟩ => .inl ⟨p, xs, hv, sq_of hp, fun t ht => q _ _ (e1.trans (ex_put ht (Ex.refl H1))) trivial⟩
theorem evP_L {te : TE} {σ : L2.St} {H : Hp} {xs : List V} (h : EvL te σ H xs) : EvP te σ H fun v H1 => ∃ p xs, v = .ref p ∧ H1 p = some (.lst xs) :=
  fun Q q => h H (Ex.refl H) _ fun p H1 _ e1 hp => q _ _ e1 ⟨p, xs, rfl, hp⟩
theorem evP_lines {K : PySem.W.Frag} {mg : Str → Option Value} {CL C : Addr} {lrs : List LRec} {ls : List Ln} {H : Hp} {σ : L2.St} {ll : Addr} {tl : TE} {j : Nat} {vs : List Nat} (T : LineC K mg CL) (h : Lns CL C lrs ls H) (hl : H ll = some (.lst (lrefs lrs))) (ht : Ev tl σ H (.ref ll)) (hn : ls.length ≤ 1000)
    (hw : ∀ y, wipe ((wipe σ vs).set j (some y)) vs = wipe σ vs) (hj : ∀ y, ((wipe σ vs).set j (some y))[j]? = some (some y)) : EvP (tDc (iList K tl) (gName j) tYes (tFld K (tVar j) "name") (tFld K (tVar j) "told") vs) σ H fun _ _ => True := by
  have lx : (lrefs lrs).length = ls.length := by unfold lrefs; rw [List.length_map, h.len]
  refine fun Q q => ht H (Ex.refl H) _ fun H1 e1 => ⟨ll, rfl, ⟨_, sq_of (e1 _ _ hl)⟩, fun D hD => ?_⟩
  refine comp_walk (body := fun x H' Nx => gName j x (wipe σ vs) H' fun σ2 H2 => wipe σ2 vs = wipe σ vs ∧ tYes σ2 H2 fun b H3 => if b = true then tFld K (tVar j) "name" σ2 H3 fun y H4 => tFld K (tVar j) "told" σ2 H4 fun z H5 => ∃ kvs k, y = kV k ∧ H5 D = some (.dK kvs) ∧ kvs.length < sizeLine ∧ Nx (upd H5 D (.dK (putK kvs k z))) else Nx H3)
    (walk_list (K := K) (a := ll) (xs := lrefs lrs)) (fun i G => Ex H1 G ∧ ∃ kvs, G D = some (.dK kvs) ∧ kvs.length ≤ i) ⟨ex_put hD (Ex.refl H1), [], upd_same, Nat.le_refl _⟩ (fun i G _ hp => sq_of (hp.1 _ _ (e1 _ _ hl))) (fun i G x G' hi hp hy => ?_) (fun G hp => q _ _ (e1.trans hp.1) trivial)
  obtain ⟨rfl, hx⟩ := hy
  obtain ⟨eG, kvs, hk, hkl⟩ := hp
  obtain ⟨hi2, rfl⟩ := lrefs_at h hx
  have la := (h.at_ i hi2).ex (e1.trans eG)
  refine ⟨hw _, ?_⟩
  refine ⟨_, hj _, _, CL, _, _, _, rfl, la.ins, T.cl, T.n1, rfl, ?_⟩
  refine ⟨_, hj _, _, CL, _, _, _, rfl, la.ins, T.cl, T.n2, rfl, kvs, .inr (S (lnth ls i).name), rfl, hk, by rw [sizeLine_eq]; rw [lx] at hi; omega, ?_⟩
  exact ⟨ex_put hD eG, _, upd_same, Nat.le_trans (length_putK _ _ _) (by omega)⟩
theorem q_callS {sp : Sp} {vs : List V} {E : L2.St → XK} {ta : TA} {σ : L2.St} {H : Hp} {D : Ends} {tz : TS} {i : Nat} (h : EvA ta σ H vs) (k : ∀ H1, Ex H H1 → sp vs H1 (fun v H2 => tz D (σ.set i (some v)) H2) (E σ)) : tSeq (tAsg (tCallS sp E ta) (gName i)) tz D σ H :=
  h H (Ex.refl H) _ fun H1 e1 => k H1 e1
/-- a node of one of the lines -/
def IsNd (lrs : List LRec) (ls : List Ln) (v : V) : Prop := ∃ i j, i < ls.length ∧ j < (lnth ls i).nodes.length ∧ v = .ref (R (LR lrs i).rs j).a
theorem refs_at {rs : List Rec} {n j : Nat} {x : V} (hv : (refs rs (List.range n))[j]? = some x) : j < n ∧ x = .ref (R rs j).a := by
  have hj : j < n := by
    have := (List.getElem?_eq_some_iff.mp hv).1
    unfold refs at this
    rw [List.length_map, List.length_range] at this
    exact this
  unfold refs at hv
  rw [List.getElem?_map, List.getElem?_range hj] at hv
  exact ⟨hj, (Option.some.inj hv).symm⟩
theorem evP_nodes {K : PySem.W.Frag} {mg : Str → Option Value} {CL C : Addr} {lrs : List LRec} {ls : List Ln} {H : Hp} {ll : Addr} {a0 a1 a3 a4 a5 : Option V} (T : LineC K mg CL) (N : NodeC K mg C) (h : Lns CL C lrs ls H) (hl : H ll = some (.lst (lrefs lrs))) (hn : ls.length ≤ 1000) :
    EvP (Xd.tDc2 (iList K (tVar 2)) (gName 3) (iList K (tFld K (tVar 3) "nodes")) (gName 4) (tFld K (tVar 4) "place") (tVar 4) [3, 4] [4]) ([a0, a1, some (.ref ll), a3, a4, a5] : L2.St) H fun v H1 => ∃ D kvs, v = .ref D ∧ H1 D = some (.dT kvs) ∧ kvs.length ≤ 1000000 ∧ ∀ kv ∈ kvs, IsNd lrs ls kv.2 := by
  have lx : (lrefs lrs).length = ls.length := by unfold lrefs; rw [List.length_map, h.len]
  refine fun Q q => ⟨_, rfl, ll, rfl, ⟨_, sq_of hl⟩, fun D hD => ?_⟩
  refine comp_walk (body := fun x H' Nx => gName 3 x (wipe ([a0, a1, some (.ref ll), a3, a4, a5] : L2.St) [3, 4]) H' fun σ2 H2 => wipe σ2 [3, 4] = wipe ([a0, a1, some (.ref ll), a3, a4, a5] : L2.St) [3, 4] ∧
    iList K (tFld K (tVar 3) "nodes") σ2 H2 fun J1 H3 => ∃ W1 : Nat → Nat → Hp → Prop, (∃ m, W1 0 m H3) ∧ ∀ j k H, W1 j k H → (J1.stop j H ∧ Nx H) ∨ (J1.go j H ∧ ∃ Nx1 : Hp → Prop, (∀ H', Nx1 H' → ∃ k', k' < k ∧ W1 (j + 1) k' H') ∧
      ∀ y H', J1.yld j H y H' → gName 4 y (wipe σ2 [4]) H' fun σ3 H4 => wipe σ3 [4] = wipe σ2 [4] ∧ tFld K (tVar 4) "place" σ3 H4 fun ky H5 => tVar 4 σ3 H5 fun z H6 => ∃ (b : Addr) (key : List Key) (kvs : List (List Key × V)), ky = .ref b ∧ H6 b = some (.tup (key.map kV)) ∧
        H6 D = some (.dT kvs) ∧ kvs.length < sizeLine ∧ Nx1 (upd H6 D (.dT (putK kvs key z)))))
    (walk_list (K := K) (a := ll) (xs := lrefs lrs)) (fun i G => Ex H G ∧ ∃ kvs, G D = some (.dT kvs) ∧ kvs.length ≤ i * 300 ∧ ∀ kv ∈ kvs, IsNd lrs ls kv.2) ⟨ex_put hD (Ex.refl H), [], upd_same, Nat.zero_le _, fun kv hk => by cases hk⟩ (fun i G _ hp => sq_of (hp.1 _ _ hl)) (fun i G x G' hi hp hy => ?_)
    (fun G hp => by obtain ⟨e, kvs, h1, h3, h2⟩ := hp; rw [lx] at h3; exact q _ _ e ⟨D, kvs, rfl, h1, by omega, h2⟩)
  obtain ⟨rfl, hx⟩ := hy
  obtain ⟨eG, kvs, hk, hkl, hkn⟩ := hp
  obtain ⟨hi2, rfl⟩ := lrefs_at h hx
  have la := (h.at_ i hi2).ex eG
  refine ⟨rfl, _, rfl, _, CL, _, _, _, rfl, la.ins, T.cl, T.n3, rfl, _, rfl, ⟨_, sq_of la.nl⟩, ?_⟩
  have lxn : (refs (LR lrs i).rs (List.range (lnth ls i).nodes.length)).length = (lnth ls i).nodes.length := by unfold refs; rw [List.length_map, List.length_range]
  refine comp_walk (body := fun y H' Nx1 => gName 4 y (wipe (([a0, a1, some (.ref ll), some (.ref (LR lrs i).a), none, a5] : L2.St)) [4]) H' fun σ3 H4 => wipe σ3 [4] = wipe (([a0, a1, some (.ref ll), some (.ref (LR lrs i).a), none, a5] : L2.St)) [4] ∧ tFld K (tVar 4) "place" σ3 H4 fun ky H5 => tVar 4 σ3 H5 fun z H6 => ∃ (b : Addr) (key : List Key) (kvs : List (List Key × V)), ky = .ref b ∧ H6 b = some (.tup (key.map kV)) ∧
        H6 D = some (.dT kvs) ∧ kvs.length < sizeLine ∧ Nx1 (upd H6 D (.dT (putK kvs key z))))
    (walk_list (K := K) (a := (LR lrs i).nl) (xs := refs (LR lrs i).rs (List.range (lnth ls i).nodes.length))) (fun j G2 => Ex H G2 ∧ ∃ kvs, G2 D = some (.dT kvs) ∧ kvs.length ≤ i * 300 + j ∧ ∀ kv ∈ kvs, IsNd lrs ls kv.2) ⟨eG, kvs, hk, hkl, hkn⟩ (fun j G2 _ hp => sq_of ((h.at_ i hi2).ex hp.1).nl) (fun j G2 y G2' hj hp hy => ?_)
    (fun G2 hp => by
      obtain ⟨e, kvs, h1, h2, h3⟩ := hp
      rw [lxn] at h2
      have := la.bd
      exact ⟨e, kvs, h1, by omega, h3⟩)
  obtain ⟨rfl, hy⟩ := hy
  obtain ⟨eG2, kvs2, hk2, hkl2, hkn2⟩ := hp
  obtain ⟨hj2, rfl⟩ := refs_at hy
  have ln := ((h.at_ i hi2).ex eG2).nds.at_ j hj2
  rw [lxn] at hj
  have lb := la.bd
  refine ⟨rfl, _, rfl, _, C, _, _, _, rfl, ln.ins, N.cl, N.n1, rfl, _, rfl, _, [.inr (S (lnth ls i).name), .inl ((nth (lnth ls i).nodes j).at_ : Int)], kvs2, rfl, ln.tup, hk2, by rw [sizeLine_eq]; rw [lx] at hi; omega, ex_put hD eG2, _, upd_same, Nat.le_trans (length_putK _ _ _) (by omega), fun kv hkv => ?_⟩
  rcases mem_putK' hkv with z | z
  · exact hkn2 kv z
  · rw [z]; exact ⟨i, j, hi2, hj2, rfl⟩
theorem ev_dget {td ty : TE} {σ : L2.St} {H : Hp} {a : Addr} {y v : V} (h : Ev td σ H (.ref a)) (hy : Ev ty σ H y) (hd : ∀ H1, Ex H H1 → DGet H1 a y (some v)) : Ev (tDGet td ty) σ H v :=
  fun H1 e Q q => h H1 e _ fun H2 e2 => hy H2 (e.trans e2) _ fun H3 e3 => ⟨a, v, rfl, hd H3 ((e.trans e2).trans e3), q H3 (e2.trans e3)⟩
theorem valV_at {kvs : List (List Key × V)} {i : Nat} {k : List Key} {v : V} (h : kvs[i]? = some (k, v)) : ∃ v', valV kvs k = some v' ∧ ∃ kv ∈ kvs, kv.2 = v' := by
  have hm : (k, v) ∈ kvs := List.mem_of_getElem? h
  unfold valV
  cases hf : kvs.find? (fun kv => decide (kv.1 = k)) with
  | none =>
    have := List.find?_eq_none.mp hf _ hm
    simp at this
  | some kv => exact ⟨kv.2, rfl, kv, List.mem_of_find?_eq_some hf, rfl⟩
theorem evP_binds {K : PySem.W.Frag} {mg : Str → Option Value} {CP dx CL C p D pw : Addr} {lrs : List LRec} {ls : List Ln} {H : Hp} {fs : List (Str × V)} {kvs : List (List Key × V)} {ws : List Wd} {a1 a2 a3 a4 a5 : Option V} (G : ProgC K mg CP) (N : NodeC K mg C) (h : Lns CL C lrs ls H) (hp : H p = some (.ins CP dx fs)) (hf : fs.lookup ("nodes" : Str) = some (.ref D)) (hD : H D = some (.dT kvs)) (hk : ∀ kv ∈ kvs, IsNd lrs ls kv.2)
    (hn : kvs.length ≤ 1000000) (hw : ∀ H, SqT K H pw (ws.map fun x => .str (S x))) :
    EvP (tLockE (tLc (iKeys (tFld K (tVar 0) "nodes")) (gName 5) (tTest (tOp (rIn K false) (tFld K (tDGet (tFld K (tVar 0) "nodes") (tVar 5)) "kind") (tC (.ref pw)))) (tVar 5) [5])) ([some (.ref p), a1, a2, a3, a4, a5] : L2.St) H fun v H1 => ∃ q xs, v = .ref q ∧ H1 q = some (.lst xs) := by
  refine fun Q q => ⟨D, .dT kvs, hD, trivial, fun od => ?_⟩
  have hpD : p ≠ D := fun z => by rw [z, hD] at hp; cases hp
  have hp1 : (upd H D (.frz od (.dT kvs))) p = some (.ins CP dx fs) := (upd_ne hpD).trans hp
  have hD1 : (upd H D (.frz od (.dT kvs))) D = some (.frz od (.dT kvs)) := upd_same
  refine ⟨_, rfl, p, CP, dx, fs, _, rfl, hp1, G.cl, G.n4, hf, D, od, rfl, .inr ⟨kvs, hD1, fun DL hDL => ?_⟩⟩
  have hne : DL ≠ D := fun z => by rw [z, hD1] at hDL; cases hDL
  refine comp_walk (body := fun x H' Nx => gName 5 x (wipe ([some (.ref p), a1, a2, a3, a4, a5] : L2.St) [5]) H' fun σ2 H2 => wipe σ2 [5] = wipe ([some (.ref p), a1, a2, a3, a4, a5] : L2.St) [5] ∧ (tTest (tOp (rIn K false) (tFld K (tDGet (tFld K (tVar 0) "nodes") (tVar 5)) "kind") (tC (.ref pw)))) σ2 H2 fun b H3 => if b = true then tVar 5 σ2 H3 fun y H4 => ∃ acc, H4 DL = some (.lst acc) ∧ acc.length < sizeLine ∧ Nx (upd H4 DL (.lst (acc ++ [y]))) else Nx H3)
    (walk_keysT (d := D) (o := od) (kvs := kvs)) (fun i G' => Ex (upd H D (.frz od (.dT kvs))) G' ∧ ∃ acc, G' DL = some (.lst acc) ∧ acc.length ≤ i) ⟨ex_put hDL (Ex.refl _), [], upd_same, Nat.le_refl _⟩ (fun i G' _ hp => hp.1 _ _ hD1) (fun i G' x G2 hi hpv hy => ?_) (fun G' hpv => ?_)
  · obtain ⟨rfl, k, v, t, hkv, rfl, ht⟩ := hy
    obtain ⟨eG, acc, ha, hal⟩ := hpv
    obtain ⟨v', hv', kv, hkm, hkv'⟩ := valV_at hkv
    obtain ⟨i2, j2, hi2, hj2, hvr⟩ := hk kv hkm
    rw [hkv'] at hvr
    subst hvr
    have ln := (h.at_ i2 hi2).nds.at_ j2 hj2
    have lnD : (R (LR lrs i2).rs j2).a ≠ D := fun z => by have := ln.ins; rw [z, hD] at this; cases this
    have lni := eG _ _ ((upd_ne lnD).trans ln.ins)
    refine ⟨rfl, ?_⟩
    have tt : EvT (tTest (tOp (rIn K false) (tFld K (tDGet (tFld K (tVar 0) "nodes") (tVar 5)) "kind") (tC (.ref pw)))) ([some (.ref p), a1, a2, a3, a4, some (.ref t)] : L2.St) G2 (decide ((nth (lnth ls i2).nodes j2).kind ∈ ws)) :=
      et_is (et_test (ev_op (ev_fld (ev_dget (a := D) (y := .ref t) (ev_fld (ev_var rfl) (eG _ _ hp1) G.cl G.n4 hf) (ev_var rfl) fun H1 e1 => .inr ⟨kvs, k, t, .inr ⟨od, e1 _ _ (eG _ _ hD1)⟩, rfl, e1 _ _ ht, hv'.symm⟩) lni N.cl N.n3 rfl) ev_c (rv_inT (hw G2) rfl flat_map))) inV_map
    refine tt G2 (Ex.refl G2) _ fun H3 e3 => ?_
    cases hb : decide ((nth (lnth ls i2).nodes j2).kind ∈ ws) with
    | true =>
      rw [if_pos rfl]
      exact ⟨_, rfl, acc, e3 _ _ ha, by rw [sizeLine_eq]; omega, ex_put hDL (eG.trans e3), _, upd_same, by rw [List.length_append]; simp; exact hal⟩
    | false =>
      rw [if_neg (by simp)]
      exact ⟨eG.trans e3, acc, e3 _ _ ha, by omega⟩
  · obtain ⟨eG, acc, ha, hal⟩ := hpv
    refine ⟨eG _ _ hD1, q _ _ (fun c o hc => ?_) ⟨DL, acc, rfl, (upd_ne hne).trans ha⟩⟩
    by_cases z : c = D
    · rw [z, upd_same]; rw [z, hD] at hc; exact hc
    · rw [upd_ne z]
      exact eG _ _ ((upd_ne z).trans hc)
section
variable {P : Program} {w : World} {K : PySem.W.Frag} {mg : Str → Option Value} {base : Heap} {f : Addr} {fd : FuncData}
def spPr (K : PySem.W.Frag) (CB CP : Addr) : Sp := fun vs H Q E => ∃ (p dx : Addr) (x : V), vs = [.ref p, x] ∧ H p = some (.ins CP dx []) ∧
  ((∃ T, TyB K H x T ∧ T ≠ "str" ∧ ∀ d H', Ex H H' → H d = none → H' d = some (.xd [("value", .int 0)]) → E (.ref CB) (some d) H') ∨
  ∃ text : Wd, x = .str (S text) ∧ (text.length ≤ 9000 ∧ (TL.spl [10] 0 [] text).length ≤ 901) ∧ (∀ e, readProg text = .error e → ∀ d H', Ex H H' → H d = none → H' d = some (.xd [("value", .int (e : Nat))]) → E (.ref CB) (some d) H') ∧
    ∀ ls, readProg text = .ok ls → ∀ H', Keep (fun c => c = p) H H' → Q .non H')
abbrev nG : List Str := ["self", "text", "lines", "line", "node", "place"]
abbrev sProg : Stmt := inClass (top 35) 0
theorem scG : FnScope nG ["self", "text"] (C8.fnScope sProg) := C8.fnScope_by (by decide +kernel)
theorem ok_program {CB CP CL C fR : Addr} {fdR : FuncData} (F : C8.Fun K "__init__" "Program.__init__" sProg f fd) (T : Txt2 K w mg) (G : ProgC K mg CP) (N : NodeC K mg C) (L : LineC K mg CL)
    (FR : FnOk P w K mg base (L2.CX P w) 6 fR fdR ["text"] (spRP K CB CL C)) (mR : mg "read_program" = some (.ref fR)) (kR : PySem.W.keepIn K (.ref fR) = true) (bR : Binds K fdR ["text"] []) : FnOk P w K mg base (L2.CX P w) 7 f fd ["self", "text"] (spPr K CB CP) := by
  obtain ⟨pw, mw, hw⟩ := T.bwords
  refine fnX F scG (fun vs H Q E h => by obtain ⟨p, dx, x, rfl, _⟩ := h; rfl) (fun cdv A outer s H vs Q E hr h => ?_)
  obtain ⟨p, dx, x, rfl, hp, h⟩ := h
  refine ⟨_, pss_cons (ps_set (i := 2) scG.nd rfl (Or.inl rfl) (pe_callS FR hr (by rfl) mR kR bR (fun σ => passAt (takes_of rfl rfl rfl rfl) σ) (pa_cons (pv 1) pa_nil)))
    (pss_cons (ps_fld (pv 0) (pv 1) rfl)
    (pss_cons (ps_fld (pv 0) (pe_dc (own := [("line", 3)]) (g := gName 3) (tt := tYes) (tk := tFld K (tVar 3) "name") (tv := tFld K (tVar 3) "told") rfl scG.nd (pi_list (pv 2)) (blkOk_by (N := nG) (sc := C8.fnScope sProg) (by decide +kernel))
        (fun _ _ _ _ _ => pg_name (i := 3) scG.nd rfl (Or.inl rfl)) (fun _ _ _ _ _ => pts_nil) (fun _ _ _ _ _ => pe_fld (pv 3) (by rfl)) (fun _ _ _ _ _ => pe_fld (pv 3) (by rfl))) rfl)
    (pss_cons (ps_fld (pv 0) (pe_tupleOf (by rfl) T.tuple_ (pe_lc (own := [("line", 3)]) (g := gName 3) (tt := tYes) (te := tFld K (tVar 3) "name") rfl scG.nd (pi_list (pe_slice sl_list (pv 2) po_none (po_some (pe_un un_neg pe_int)))) (blkOk_by (N := nG) (sc := C8.fnScope sProg) (by decide +kernel))
        (fun _ _ _ _ _ => pg_name (i := 3) scG.nd rfl (Or.inl rfl)) (fun _ _ _ _ _ => pts_nil) (fun _ _ _ _ _ => pe_fld (pv 3) (by rfl)))) rfl)
    (pss_cons (ps_fld (pv 0) (Xd.pe_dc2 (own := [("line", 3), ("node", 4)]) (vs1 := [4]) (g := gName 3) (g1 := gName 4) (wi1 := iList K (tFld K (tVar 3) "nodes")) (tk := tFld K (tVar 4) "place") (tv := tVar 4) rfl (Nat.lt_of_le_of_lt (Nat.le_trans (Nat.le_add_right _ _) (Nat.le_add_right _ _)) hr.un) scG.nd (pi_list (pv 2)) (blkOk_by (N := nG) (sc := C8.fnScope sProg) (by decide +kernel)) (by decide)
        (fun _ _ _ _ _ => pg_name (i := 3) scG.nd rfl (Or.inl rfl)) (fun _ _ _ _ _ => pi_list (pe_fld (pv 3) (by rfl))) (fun _ _ _ _ _ => pg_name (i := 4) scG.nd rfl (Or.inl rfl)) (fun _ _ _ _ _ => pe_fld (pv 4) (by rfl)) (fun _ _ _ _ _ => pv 4)) rfl)
    (pss_cons (ps_fld (pv 0) (pe_tupleOf (by rfl) T.tuple_ (pe_callTy (call_list_dT rfl) (by rfl) T.list_ (by decide +kernel) (pa_cons (pe_fld (pv 0) rfl) pa_nil))) rfl)
    (pss_one (ps_fld (pv 0) (pe_tupleOf (by rfl) T.tuple_ (pe_lock (pe_lc (own := [("place", 5)]) (g := gName 5) (tt := tTest (tOp (rIn K false) (tFld K (tDGet (tFld K (tVar 0) "nodes") (tVar 5)) "kind") (tC (.ref pw)))) (te := tVar 5) rfl scG.nd (pi_keys (pe_fld (pv 0) rfl)) (blkOk_by (N := nG) (sc := C8.fnScope sProg) (by decide +kernel))
        (fun _ _ _ _ _ => pg_name (i := 5) scG.nd rfl (Or.inl rfl)) (fun _ _ _ _ _ => pts_one (pt_cmpR op_in_seq (pe_fld (pe_dget (by have := hr.un; show (A.deeper (envOfC "Program.__init__" (C8.fnScope sProg) s.heap.objs.size f cdv)).units + 1 < cLine; omega) (pe_fld (pv 0) (by rfl)) (pv 5) (fun _ _ => rfl)) (by rfl)) (pe_glob (v := .ref pw) (by rfl) mw rfl) rfl)) (fun _ _ _ _ _ => pv 5)))) rfl))))))), ?_⟩
  refine q_callS (vs := [x]) (ea_cons (ev_var rfl) ea_nil) fun H0 e0 => ⟨x, rfl, ?_⟩
  rcases h with ⟨t, ht, hne, k⟩ | ⟨text, rfl, hlt, kE, kQ⟩
  · exact .inl ⟨t, TyB_ex ht e0, hne, fun d H' e hd hd' => k d H' (e0.trans e) (fresh_back e0 hd) hd'⟩
  · refine .inr ⟨text, rfl, hlt, fun e he d H' ee hd hd' => kE e he d H' (e0.trans ee) (fresh_back e0 hd) hd', fun ls hls lrs ll H1 e1 hL hll hll0 hne hln => ?_⟩
    have e01 := e0.trans e1
    have hp1 := e01 _ _ hp
    have k0 := kQ ls hls
    have nxt : ∀ {G G' : Hp} {fs : List (Str × V)}, Keep (fun c => c = p) H1 G → Ex G G' → Keep (fun c => c = p) H1 (upd G' p (.ins CP dx fs)) := fun kk ee => (kk.ex ee).put rfl
    have hpl : ll ≠ p := fun z => by rw [z, hp1] at hll; cases hll
    refine q_fld hp1 (ev_var rfl) (v := .str (S text)) (ev_var rfl) G.cl G.n1 (by show 0 < 1000; decide) fun H2 e2 => ?_
    have kk2 := nxt (fs := putF "_text" (.str (S text)) []) (Keep.refl (fun c => c = p) H1) e2
    refine q_fldP (Pd := fun _ _ => True) upd_same (ev_var rfl) (evP_lines (j := 3) (ll := ll) L (hL.keep hp1 kk2) (kk2 _ _ hpl hll) (ev_var rfl) hln (fun _ => rfl) (fun _ => rfl)) G.cl G.n2 (by show 1 < 1000; decide) (fun _ _ _ _ _ h => h) fun v3 H3 e3 _ => ?_
    have kk3 := nxt (fs := putF "_lines" v3 (putF "_text" (.str (S text)) [])) kk2 e3
    have cut : EvL (tSl (rSlL K) (tVar 2) tNoPart (tPart (tUn (rU fun i => V.int (-i)) (tC (V.int 1))))) ([some (.ref p), some (.str (S text)), some (.ref ll), none, none, none] : L2.St) (upd H3 p (.ins CP dx (putF "_lines" v3 (putF "_text" (.str (S text)) [])))) (lrefs lrs.dropLast) := by
      have hcut : cutV (lrefs lrs) none (some (-1)) = lrefs lrs.dropLast := by
        rw [cut_last (fun z => by
          have lx : (lrefs lrs).length = ls.length := by unfold lrefs; rw [List.length_map, hL.len]
          rw [z] at lx
          cases ls with
          | nil => exact hne rfl
          | cons a b => simp at lx)]
        unfold lrefs
        rw [List.map_dropLast]
      rw [← hcut]
      exact el_sl (ev_var rfl) eo_none (eo_some (ev_un ev_c ru_neg)) (sq_of (kk3 _ _ hpl hll))
    refine q_fldP (Pd := fun _ _ => True) upd_same (ev_var rfl) (evP_tup (evP_L (el_lnamesN (j := 3) L (hL.keep hp1 kk3).drop cut (by simp; omega) (fun _ => rfl) (fun _ => rfl)))) G.cl G.n3 (by show 2 < 1000; decide) (fun _ _ _ _ _ h => h) fun v4 H4 e4 _ => ?_
    have kk4 := nxt (fs := putF "_parts" v4 (putF "_lines" v3 (putF "_text" (.str (S text)) []))) kk3 e4
    refine q_fldP upd_same (ev_var rfl) (evP_nodes (ll := ll) L N (hL.keep hp1 kk4) (kk4 _ _ hpl hll) hln) G.cl G.n4 (by show 3 < 1000; decide) (fun v A1 A2 _ ee ⟨D, kvs, a, b, c, d⟩ => ⟨D, kvs, a, ee _ _ b, c, d⟩) fun v5 H5 e5 hv5 => ?_
    obtain ⟨D, kvs, rfl, hD5, hkl, hkn⟩ := hv5
    have hDp : D ≠ p := fun z => by
      have := e5 _ _ (upd_same (H := H4) (a := p) (o := .ins CP dx (putF "_parts" v4 (putF "_lines" v3 (putF "_text" (.str (S text)) [])))))
      rw [← z, hD5] at this
      cases this
    have kk5 := nxt (fs := putF "nodes" (.ref D) (putF "_parts" v4 (putF "_lines" v3 (putF "_text" (.str (S text)) [])))) kk4 e5
    have hD5' : (upd H5 p (.ins CP dx (putF "nodes" (.ref D) (putF "_parts" v4 (putF "_lines" v3 (putF "_text" (.str (S text)) [])))))) D = some (.dT kvs) := (upd_ne hDp).trans hD5
    refine q_fldP (Pd := fun _ _ => True) upd_same (ev_var rfl) (evP_tup ?_) G.cl G.n5 (by show 4 < 1000; decide) (fun _ _ _ _ _ h => h) fun v6 H6 e6 _ => ?_
    · refine fun Q' q => ⟨_, rfl, p, CP, dx, _, _, rfl, upd_same, G.cl, G.n4, rfl, D, kvs, rfl, .inl hD5', fun t bs ht _ => q _ _ (ex_put ht (Ex.refl _)) ⟨t, _, rfl, upd_same⟩⟩
    · have kk6 := nxt (fs := putF "_places" v6 (putF "nodes" (.ref D) (putF "_parts" v4 (putF "_lines" v3 (putF "_text" (.str (S text)) []))))) kk5 e6
      refine s_fldP upd_same (ev_var rfl) (evP_tup (evP_binds (ws := [[99, 97, 108, 108], [108, 101, 116], [112, 97, 105, 114]]) G N (hL.keep hp1 kk6) upd_same rfl ((upd_ne hDp).trans (e6 _ _ hD5')) hkn hkl hw)) G.cl G.n6 (by show 5 < 1000; decide) fun v7 H7 e7 => ?_
      exact k0 _ (fun c o hc hh => nxt kk6 e7 c o hc (e01 _ _ hh))
end
end K5
set_option Elab.async false
set_option linter.all false
set_option maxRecDepth 100000
set_option maxHeartbeats 4000000
namespace K5
open PySem PySem.Spec PyProof.Rows L2 Evl Xl SX Mi
theorem putK_new {κ : Type} [DecidableEq κ] {kvs : List (κ × V)} {k : κ} {v : V} (h : ∀ kv ∈ kvs, kv.1 ≠ k) : putK kvs k v = kvs ++ [(k, v)] := by
  unfold putK
  rw [if_neg]
  intro z
  obtain ⟨kv, hm, e⟩ := List.any_eq_true.mp z
  exact h kv hm (of_decide_eq_true e)
theorem canStand_new {l : Ln} {ls : List Ln} (h : canStand l ls = true) : l.name ∉ ls.map (·.name) := by
  intro hm
  unfold canStand at h
  simp only at h
  rw [if_pos (.inr hm)] at h
  cases h
theorem linesM_nodup : ∀ {ts : List Wd} {ls0 ls : List Ln}, linesM ts ls0 = .ok ls → (ls0.map (·.name)).Nodup → (ls.map (·.name)).Nodup := by
  intro ts
  induction ts with
  | nil => intro ls0 ls h hn; cases h; exact hn
  | cons t r ih =>
    intro ls0 ls h hn
    unfold linesM at h
    cases hr : readLine t with
    | none => rw [hr] at h; cases h
    | some l =>
      rw [hr] at h
      dsimp only at h
      by_cases hc : canStand l ls0 = true
      · rw [if_pos hc] at h
        refine ih h ?_
        rw [List.map_append, List.nodup_append]
        refine ⟨hn, by simp, fun a ha b hb => ?_⟩
        have hb2 : b = l.name := by simpa using hb
        rw [hb2]
        exact fun e => canStand_new hc (e ▸ ha)
      · rw [if_neg hc] at h; cases h
/-- the numbers of the nodes rise -/
def Rise (ns : List Nd) (b : Nat) : Prop := (∀ j, j < ns.length → (nth ns j).at_ < b) ∧ ∀ i j, i < j → j < ns.length → (nth ns i).at_ < (nth ns j).at_
theorem rise_hang {ns : List Nd} {wt : List Nat} {x : Nd} {b b' : Nat} (h : Rise ns b) (hx : x.at_ = b) (hb : b < b') : Rise (addIn (ns ++ [x]) wt ns.length) b' := by
  have hl : (addIn (ns ++ [x]) wt ns.length).length = ns.length + 1 := by rw [addIn_len]; simp
  have e : ∀ j, j < ns.length + 1 → (nth (addIn (ns ++ [x]) wt ns.length) j).at_ = (nth (ns ++ [x]) j).at_ := fun j hj => by
    rw [addIn_nth (by simp; exact hj)]
    split <;> rfl
  refine ⟨fun j hj => ?_, fun i j hij hj => ?_⟩
  · rw [hl] at hj
    rw [e j hj]
    by_cases z : j < ns.length
    · rw [nth_app z]; have := h.1 j z; omega
    · have : j = ns.length := by omega
      rw [this, nth_new]; omega
  · rw [hl] at hj
    rw [e i (by omega), e j hj, nth_app (i := i) (by omega)]
    by_cases z : j < ns.length
    · rw [nth_app z]; exact h.2 i j hij z
    · have : j = ns.length := by omega
      rw [this, nth_new, hx]; exact h.1 i (by omega)
theorem loopM_rise {ws : List Wd} : ∀ {f : Nat} {ns : List Nd} {wt : List Nat} {at_ : Nat} {ns' : List Nd} {wt' : List Nat}, loopM ws f ns wt at_ = some (ns', wt') → Rise ns at_ → ∃ b, Rise ns' b := by
  intro f
  induction f with
  | zero => intro ns wt at_ ns' wt' e h; cases e; exact ⟨at_, h⟩
  | succ f ih =>
    intro ns wt at_ ns' wt' e h
    unfold loopM at e
    by_cases hat : at_ < ws.length
    · rw [if_pos hat] at e
      cases hr : readNd ws at_ wt.getLast? (lvlOf ns wt.getLast?) with
      | none => rw [hr] at e; cases e
      | some nd =>
        rw [hr] at e
        dsimp only at e
        by_cases hb : ns ≠ [] ∧ wt.getLast? = none
        · rw [if_pos hb] at e; cases e
        · rw [if_neg hb] at e
          refine ih e (rise_hang h (readNd_facts hr).2.2.2.2.1 ?_)
          split <;> omega
    · rw [if_neg hat] at e
      cases e
      exact ⟨at_, h⟩
theorem readExpr_at {ws : List Wd} {st : Nat} {ns : List Nd} (h : readExpr ws st = some ns) : ∀ i j, i < ns.length → j < ns.length → (nth ns i).at_ = (nth ns j).at_ → i = j := by
  unfold readExpr at h
  cases hl : loopM ws (ws.length + 1) [] [] st with
  | none => rw [hl] at h; cases h
  | some q =>
    obtain ⟨ns', wt⟩ := q
    rw [hl] at h
    dsimp only at h
    by_cases z : wt ≠ [] ∨ ns' = []
    · rw [if_pos z] at h; cases h
    · rw [if_neg z] at h
      cases h
      obtain ⟨b, hr⟩ := loopM_rise hl ⟨fun j hj => by simp at hj, fun i j _ hj => by simp at hj⟩
      intro i j hi hj e
      rw [bindTo_len] at hi hj
      rw [(bindTo_same hi).2.2.1, (bindTo_same hj).2.2.1] at e
      rcases Nat.lt_trichotomy i j with g | g | g
      · have := hr.2 i j g hj; omega
      · exact g
      · have := hr.2 j i g hi; omega
end K5
set_option Elab.async false
set_option linter.all false
set_option maxRecDepth 100000
set_option maxHeartbeats 4000000
namespace K5
open PySem PySem.Spec PyProof.Rows L2 Evl Xl SX Mi
theorem take_lnth {ls : List Ln} {i : Nat} (h : i < ls.length) : ls.take (i + 1) = ls.take i ++ [lnth ls i] := by
  rw [List.take_add_one]
  unfold lnth
  rw [List.getD_eq_getElem?_getD, List.getElem?_eq_getElem h]
  rfl
theorem name_apart {ls : List Ln} (hn : (ls.map (·.name)).Nodup) {i j : Nat} (hi : i < ls.length) (hj : j < ls.length) (e : (lnth ls i).name = (lnth ls j).name) : i = j := by
  have P := List.pairwise_iff_getElem.mp hn
  have nm : ∀ m (hm : m < (ls.map (·.name)).length), (ls.map (·.name))[m] = (lnth ls m).name := fun m hm => by
    have hm' : m < ls.length := by simpa using hm
    unfold lnth
    simp [List.getD_eq_getElem?_getD, hm']
  have hi' : i < (ls.map (·.name)).length := by simpa using hi
  have hj' : j < (ls.map (·.name)).length := by simpa using hj
  rcases Nat.lt_trichotomy i j with g | g | g
  · exact absurd (by rw [nm i hi', nm j hj', e]) (P i j hi' hj' g)
  · exact g
  · exact absurd (by rw [nm i hi', nm j hj', e]) (P j i hj' hi' g)
def lineKvs (ls : List Ln) : List (Key × V) := ls.map fun l => (.inr (S l.name), .str (S l.told))
/-- the dict of the lines, exactly -/
theorem evP_linesX {K : PySem.W.Frag} {mg : Str → Option Value} {CL C : Addr} {lrs : List LRec} {ls : List Ln} {H : Hp} {σ : L2.St} {ll : Addr} {tl : TE} {j : Nat} {vs : List Nat} (T : LineC K mg CL) (h : Lns CL C lrs ls H) (hnd : (ls.map (·.name)).Nodup) (hl : H ll = some (.lst (lrefs lrs))) (ht : Ev tl σ H (.ref ll)) (hn : ls.length ≤ 1000)
    (hw : ∀ y, wipe ((wipe σ vs).set j (some y)) vs = wipe σ vs) (hj : ∀ y, ((wipe σ vs).set j (some y))[j]? = some (some y)) : EvP (tDc (iList K tl) (gName j) tYes (tFld K (tVar j) "name") (tFld K (tVar j) "told") vs) σ H fun v H1 => ∃ D, v = .ref D ∧ H D = none ∧ H1 D = some (.dK (lineKvs ls)) := by
  have lx : (lrefs lrs).length = ls.length := by unfold lrefs; rw [List.length_map, h.len]
  refine fun Q q => ht H (Ex.refl H) _ fun H1 e1 => ⟨ll, rfl, ⟨_, sq_of (e1 _ _ hl)⟩, fun D hD => ?_⟩
  refine comp_walk (body := fun x H' Nx => gName j x (wipe σ vs) H' fun σ2 H2 => wipe σ2 vs = wipe σ vs ∧ tYes σ2 H2 fun b H3 => if b = true then tFld K (tVar j) "name" σ2 H3 fun y H4 => tFld K (tVar j) "told" σ2 H4 fun z H5 => ∃ kvs k, y = kV k ∧ H5 D = some (.dK kvs) ∧ kvs.length < sizeLine ∧ Nx (upd H5 D (.dK (putK kvs k z))) else Nx H3)
    (walk_list (K := K) (a := ll) (xs := lrefs lrs)) (fun i G => Ex H1 G ∧ G D = some (.dK (lineKvs (ls.take i)))) ⟨ex_put hD (Ex.refl H1), upd_same⟩ (fun i G _ hp => sq_of (hp.1 _ _ (e1 _ _ hl))) (fun i G x G' hi hp hy => ?_) (fun G hp => ?_)
  · obtain ⟨rfl, hx⟩ := hy
    obtain ⟨eG, hk⟩ := hp
    obtain ⟨hi2, rfl⟩ := lrefs_at h hx
    have la := (h.at_ i hi2).ex (e1.trans eG)
    refine ⟨hw _, ?_⟩
    refine ⟨_, hj _, _, CL, _, _, _, rfl, la.ins, T.cl, T.n1, rfl, ?_⟩
    refine ⟨_, hj _, _, CL, _, _, _, rfl, la.ins, T.cl, T.n2, rfl, lineKvs (ls.take i), .inr (S (lnth ls i).name), rfl, hk, ?_, ?_⟩
    · unfold lineKvs
      rw [List.length_map, List.length_take, sizeLine_eq]
      omega
    · refine ⟨ex_put hD eG, ?_⟩
      rw [upd_same, take_lnth hi2, putK_new]
      · unfold lineKvs
        rw [List.map_append]
        rfl
      · intro kv hkv e
        unfold lineKvs at hkv
        obtain ⟨l, hl2, rfl⟩ := List.mem_map.mp hkv
        obtain ⟨m, hm, hml⟩ := List.mem_take_iff_getElem.mp hl2
        have hm' : m < ls.length := by omega
        have el : lnth ls m = l := by
          unfold lnth
          rw [List.getD_eq_getElem?_getD, List.getElem?_eq_getElem hm']
          exact hml
        have := name_apart hnd hm' hi2 (by rw [el]; exact S_inj (Sum.inr.inj e))
        omega
  · obtain ⟨eG, hk⟩ := hp
    rw [lx, List.take_length] at hk
    exact q _ _ (e1.trans eG) ⟨D, rfl, fresh_back e1 hD, hk⟩
end K5
set_option Elab.async false
set_option linter.all false
set_option maxRecDepth 100000
set_option maxHeartbeats 4000000
namespace K5
open PySem PySem.Spec PyProof.Rows L2 Evl Xl SX Mi
def AtsApart (l : Ln) : Prop := ∀ a b, a < l.nodes.length → b < l.nodes.length → (nth l.nodes a).at_ = (nth l.nodes b).at_ → a = b
theorem readLine_at {told : Wd} {l : Ln} (h : readLine told = some l) : AtsApart l := by
  unfold readLine at h
  simp only at h
  split at h
  · cases h
  · split at h
    · obtain ⟨ns, hn, rfl⟩ := Option.map_eq_some_iff.mp h
      exact readExpr_at hn
    · split at h
      · obtain ⟨ns, hn, rfl⟩ := Option.map_eq_some_iff.mp h
        exact readExpr_at hn
      · cases h
theorem linesM_at : ∀ {ts : List Wd} {ls0 ls : List Ln}, linesM ts ls0 = .ok ls → (∀ l ∈ ls0, AtsApart l) → ∀ l ∈ ls, AtsApart l := by
  intro ts
  induction ts with
  | nil => intro ls0 ls h hn; cases h; exact hn
  | cons t r ih =>
    intro ls0 ls h hn
    unfold linesM at h
    cases hr : readLine t with
    | none => rw [hr] at h; cases h
    | some l =>
      rw [hr] at h
      dsimp only at h
      by_cases hc : canStand l ls0 = true
      · rw [if_pos hc] at h
        refine ih h fun m hm => ?_
        rcases List.mem_append.mp hm with z | z
        · exact hn m z
        · rw [List.mem_singleton.mp z]; exact readLine_at hr
      · rw [if_neg hc] at h; cases h
theorem readProg_facts {text : Wd} {ls : List Ln} (h : readProg text = .ok ls) : (ls.map (·.name)).Nodup ∧ ∀ l ∈ ls, AtsApart l := by
  unfold readProg at h
  cases hl : linesM (TL.spl [10] 0 [] text) [] with
  | error e => rw [hl] at h; cases h
  | ok ls' =>
    rw [hl] at h
    dsimp only at h
    split at h
    · cases h
    · split at h
      · cases h
      · cases h
        exact ⟨linesM_nodup hl (by simp), linesM_at hl fun l hm => by cases hm⟩
def nodeKv (lrs : List LRec) (ls : List Ln) (i j : Nat) : List Key × V := ([.inr (S (lnth ls i).name), .inl ((nth (lnth ls i).nodes j).at_ : Int)], .ref (R (LR lrs i).rs j).a)
def lineNs (lrs : List LRec) (ls : List Ln) (i n : Nat) : List (List Key × V) := (List.range n).map (nodeKv lrs ls i)
def nodeKvs (lrs : List LRec) (ls : List Ln) (n : Nat) : List (List Key × V) := (List.range n).flatMap fun i => lineNs lrs ls i (lnth ls i).nodes.length
theorem nodeKvs_len {lrs : List LRec} {ls : List Ln} (hb : ∀ i, i < ls.length → (lnth ls i).nodes.length ≤ 300) : ∀ {n : Nat}, n ≤ ls.length → (nodeKvs lrs ls n).length ≤ n * 300 := by
  intro n
  induction n with
  | zero => intro _; simp [nodeKvs]
  | succ n ih =>
    intro h
    have := ih (by omega)
    have hb' := hb n (by omega)
    unfold nodeKvs at this ⊢
    rw [List.range_succ, List.flatMap_append, List.length_append]
    simp only [List.flatMap_cons, List.flatMap_nil, List.append_nil]
    have hl : (lineNs lrs ls n (lnth ls n).nodes.length).length = (lnth ls n).nodes.length := by simp [lineNs]
    omega
theorem key_new {lrs : List LRec} {ls : List Ln} (hn : (ls.map (·.name)).Nodup) (ha : ∀ l ∈ ls, AtsApart l) {i j : Nat} (hi : i < ls.length) (hj : j < (lnth ls i).nodes.length) : ∀ kv ∈ nodeKvs lrs ls i ++ lineNs lrs ls i j, kv.1 ≠ (nodeKv lrs ls i j).1 := by
  intro kv hkv e
  rcases List.mem_append.mp hkv with z | z
  · obtain ⟨m, hm, hk⟩ := List.mem_flatMap.mp z
    obtain ⟨a, _, rfl⟩ := List.mem_map.mp hk
    rw [List.mem_range] at hm
    have e1 : (Sum.inr (S (lnth ls m).name) : Key) = .inr (S (lnth ls i).name) := (List.cons.inj e).1
    have := name_apart hn (by omega) hi (S_inj (Sum.inr.inj e1))
    omega
  · obtain ⟨a, haj, rfl⟩ := List.mem_map.mp z
    rw [List.mem_range] at haj
    have e2 : (Sum.inl ((nth (lnth ls i).nodes a).at_ : Int) : Key) = .inl ((nth (lnth ls i).nodes j).at_ : Int) := (List.cons.inj (List.cons.inj e).2).1
    have e3 : (nth (lnth ls i).nodes a).at_ = (nth (lnth ls i).nodes j).at_ := Int.ofNat.inj (Sum.inl.inj e2)
    have hm : lnth ls i ∈ ls := by
      unfold lnth
      rw [List.getD_eq_getElem?_getD, List.getElem?_eq_getElem hi]
      exact List.getElem_mem hi
    have := ha _ hm a j (by omega) hj e3
    omega
/-- the dict of the nodes, exactly -/
theorem evP_nodesX {K : PySem.W.Frag} {mg : Str → Option Value} {CL C : Addr} {lrs : List LRec} {ls : List Ln} {H : Hp} {ll : Addr} {a0 a1 a3 a4 a5 : Option V} (T : LineC K mg CL) (N : NodeC K mg C) (h : Lns CL C lrs ls H) (hn0 : (ls.map (·.name)).Nodup) (ha0 : ∀ l ∈ ls, AtsApart l) (hl : H ll = some (.lst (lrefs lrs))) (hn : ls.length ≤ 1000) :
    EvP (Xd.tDc2 (iList K (tVar 2)) (gName 3) (iList K (tFld K (tVar 3) "nodes")) (gName 4) (tFld K (tVar 4) "place") (tVar 4) [3, 4] [4]) ([a0, a1, some (.ref ll), a3, a4, a5] : L2.St) H fun v H1 => ∃ D, v = .ref D ∧ H D = none ∧ H1 D = some (.dT (nodeKvs lrs ls ls.length)) := by
  have lx : (lrefs lrs).length = ls.length := by unfold lrefs; rw [List.length_map, h.len]
  have hb : ∀ i, i < ls.length → (lnth ls i).nodes.length ≤ 300 := fun i hi => (h.at_ i hi).bd
  refine fun Q q => ⟨_, rfl, ll, rfl, ⟨_, sq_of hl⟩, fun D hD => ?_⟩
  refine comp_walk (body := fun x H' Nx => gName 3 x (wipe ([a0, a1, some (.ref ll), a3, a4, a5] : L2.St) [3, 4]) H' fun σ2 H2 => wipe σ2 [3, 4] = wipe ([a0, a1, some (.ref ll), a3, a4, a5] : L2.St) [3, 4] ∧
    iList K (tFld K (tVar 3) "nodes") σ2 H2 fun J1 H3 => ∃ W1 : Nat → Nat → Hp → Prop, (∃ m, W1 0 m H3) ∧ ∀ j k H, W1 j k H → (J1.stop j H ∧ Nx H) ∨ (J1.go j H ∧ ∃ Nx1 : Hp → Prop, (∀ H', Nx1 H' → ∃ k', k' < k ∧ W1 (j + 1) k' H') ∧
      ∀ y H', J1.yld j H y H' → gName 4 y (wipe σ2 [4]) H' fun σ3 H4 => wipe σ3 [4] = wipe σ2 [4] ∧ tFld K (tVar 4) "place" σ3 H4 fun ky H5 => tVar 4 σ3 H5 fun z H6 => ∃ (b : Addr) (key : List Key) (kvs : List (List Key × V)), ky = .ref b ∧ H6 b = some (.tup (key.map kV)) ∧
        H6 D = some (.dT kvs) ∧ kvs.length < sizeLine ∧ Nx1 (upd H6 D (.dT (putK kvs key z)))))
    (walk_list (K := K) (a := ll) (xs := lrefs lrs)) (fun i G => Ex H G ∧ G D = some (.dT (nodeKvs lrs ls i))) ⟨ex_put hD (Ex.refl H), upd_same⟩ (fun i G _ hp => sq_of (hp.1 _ _ hl)) (fun i G x G' hi hp hy => ?_)
    (fun G hp => by obtain ⟨e, h1⟩ := hp; rw [lx] at h1; exact q _ _ e ⟨D, rfl, hD, h1⟩)
  obtain ⟨rfl, hx⟩ := hy
  obtain ⟨eG, hk⟩ := hp
  obtain ⟨hi2, rfl⟩ := lrefs_at h hx
  have la := (h.at_ i hi2).ex eG
  refine ⟨rfl, _, rfl, _, CL, _, _, _, rfl, la.ins, T.cl, T.n3, rfl, _, rfl, ⟨_, sq_of la.nl⟩, ?_⟩
  have lxn : (refs (LR lrs i).rs (List.range (lnth ls i).nodes.length)).length = (lnth ls i).nodes.length := by unfold refs; rw [List.length_map, List.length_range]
  refine comp_walk (body := fun y H' Nx1 => gName 4 y (wipe (([a0, a1, some (.ref ll), some (.ref (LR lrs i).a), none, a5] : L2.St)) [4]) H' fun σ3 H4 => wipe σ3 [4] = wipe (([a0, a1, some (.ref ll), some (.ref (LR lrs i).a), none, a5] : L2.St)) [4] ∧ tFld K (tVar 4) "place" σ3 H4 fun ky H5 => tVar 4 σ3 H5 fun z H6 => ∃ (b : Addr) (key : List Key) (kvs : List (List Key × V)), ky = .ref b ∧ H6 b = some (.tup (key.map kV)) ∧
        H6 D = some (.dT kvs) ∧ kvs.length < sizeLine ∧ Nx1 (upd H6 D (.dT (putK kvs key z))))
    (walk_list (K := K) (a := (LR lrs i).nl) (xs := refs (LR lrs i).rs (List.range (lnth ls i).nodes.length))) (fun j G2 => Ex H G2 ∧ G2 D = some (.dT (nodeKvs lrs ls i ++ lineNs lrs ls i j))) ⟨eG, by rw [hk]; simp [lineNs]⟩ (fun j G2 _ hp => sq_of ((h.at_ i hi2).ex hp.1).nl) (fun j G2 y G2' hj hp hy => ?_)
    (fun G2 hp => by
      obtain ⟨e, h1⟩ := hp
      rw [lxn] at h1
      refine ⟨e, ?_⟩
      rw [h1]
      unfold nodeKvs
      rw [List.range_succ, List.flatMap_append]
      simp)
  obtain ⟨rfl, hy⟩ := hy
  obtain ⟨eG2, hk2⟩ := hp
  obtain ⟨hj2, rfl⟩ := refs_at hy
  have ln := ((h.at_ i hi2).ex eG2).nds.at_ j hj2
  have lb := la.bd
  have l1 := nodeKvs_len (lrs := lrs) hb (n := i) (by omega)
  refine ⟨rfl, _, rfl, _, C, _, _, _, rfl, ln.ins, N.cl, N.n1, rfl, _, rfl, _, (nodeKv lrs ls i j).1, _, rfl, ln.tup, hk2, ?_, ex_put hD eG2, ?_⟩
  · rw [List.length_append, sizeLine_eq]
    unfold lineNs
    rw [List.length_map, List.length_range]
    omega
  · rw [upd_same, putK_new (key_new hn0 ha0 hi2 hj2)]
    unfold lineNs
    rw [List.range_succ, List.map_append, List.append_assoc]
    rfl
end K5
set_option Elab.async false
set_option linter.all false
set_option maxRecDepth 100000
set_option maxHeartbeats 4000000
namespace K5
open PySem PySem.Spec PyProof.Rows L2 Evl Xl SX Mi
/-- the keys' tuples at these addresses -/
def TupsK (H : Hp) : List Addr → List (List Key) → Prop
  | [], [] => True
  | t :: ts, k :: ks => H t = some (.tup (k.map kV)) ∧ TupsK H ts ks
  | _, _ => False
theorem TupsK.of {H H' : Hp} (hk : ∀ c xs, H c = some (.tup xs) → H' c = some (.tup xs)) : ∀ {ts : List Addr} {ks : List (List Key)}, TupsK H ts ks → TupsK H' ts ks := by
  intro ts
  induction ts with
  | nil => intro ks h; cases ks <;> exact h
  | cons t ts ih =>
    intro ks h
    cases ks with
    | nil => exact h
    | cons k ks => exact ⟨hk _ _ h.1, ih h.2⟩
theorem TupsK.app {H : Hp} : ∀ {ts us : List Addr} {ks ls : List (List Key)}, TupsK H ts ks → TupsK H us ls → TupsK H (ts ++ us) (ks ++ ls) := by
  intro ts
  induction ts with
  | nil =>
    intro us ks ls h1 h2
    cases ks with
    | nil => exact h2
    | cons k ks => exact h1.elim
  | cons t ts ih =>
    intro us ks ls h1 h2
    cases ks with
    | nil => exact h1.elim
    | cons k ks => exact ⟨h1.1, ih h1.2 h2⟩
theorem TupsK.len {H : Hp} : ∀ {ts : List Addr} {ks : List (List Key)}, TupsK H ts ks → ts.length = ks.length := by
  intro ts
  induction ts with
  | nil => intro ks h; cases ks with | nil => rfl | cons k ks => exact h.elim
  | cons t ts ih => intro ks h; cases ks with | nil => exact h.elim | cons k ks => simp [ih h.2]
theorem valV_one {κ : Type} [DecidableEq κ] : ∀ {kvs : List (κ × V)} {i : Nat} {k : κ} {v : V}, (kvs.map (·.1)).Nodup → kvs[i]? = some (k, v) → valV kvs k = some v := by
  intro kvs
  induction kvs with
  | nil => intro i k v _ h; simp at h
  | cons a r ih =>
    intro i k v hn h
    rw [List.map_cons, List.nodup_cons] at hn
    unfold valV
    rw [List.find?_cons]
    cases i with
    | zero =>
      simp at h
      subst h
      simp
    | succ i =>
      simp at h
      have hne : ¬ a.1 = k := fun e => hn.1 (by
        rw [e]
        exact List.mem_map.mpr ⟨(k, v), List.mem_of_getElem? h, rfl⟩)
      rw [decide_eq_false hne]
      exact ih hn.2 h
def nodeTab (lrs : List LRec) (ls : List Ln) (n : Nat) : List ((List Key × V) × Nd) := (List.range n).flatMap fun i => (List.range (lnth ls i).nodes.length).map fun j => (nodeKv lrs ls i j, nth (lnth ls i).nodes j)
theorem tab_kvs {lrs : List LRec} {ls : List Ln} {n : Nat} : nodeKvs lrs ls n = (nodeTab lrs ls n).map (·.1) := by
  unfold nodeKvs nodeTab lineNs
  rw [List.map_flatMap]
  congr 1
  funext i
  rw [List.map_map]
  rfl
theorem keys_nodup {lrs : List LRec} {ls : List Ln} (hn : (ls.map (·.name)).Nodup) (ha : ∀ l ∈ ls, AtsApart l) : ∀ {n : Nat}, n ≤ ls.length → ((nodeKvs lrs ls n).map (·.1)).Nodup := by
  intro n
  induction n with
  | zero => intro _; simp [nodeKvs]
  | succ n ih =>
    intro h
    have base := ih (by omega)
    have step : ∀ j, j ≤ (lnth ls n).nodes.length → ((nodeKvs lrs ls n ++ lineNs lrs ls n j).map (·.1)).Nodup := by
      intro j
      induction j with
      | zero => intro _; simpa [lineNs] using base
      | succ j ihj =>
        intro hj
        have := ihj (by omega)
        have e : lineNs lrs ls n (j + 1) = lineNs lrs ls n j ++ [nodeKv lrs ls n j] := by
          unfold lineNs
          rw [List.range_succ, List.map_append]
          rfl
        rw [e, ← List.append_assoc, List.map_append, List.nodup_append]
        refine ⟨this, by simp, fun a ha' b hb => ?_⟩
        obtain ⟨kv, hkv, rfl⟩ := List.mem_map.mp ha'
        have hb2 : b = (nodeKv lrs ls n j).1 := by simpa using hb
        rw [hb2]
        exact key_new hn ha (by omega) (by omega) kv hkv
    have := step _ (Nat.le_refl _)
    have e : nodeKvs lrs ls (n + 1) = nodeKvs lrs ls n ++ lineNs lrs ls n (lnth ls n).nodes.length := by
      unfold nodeKvs
      rw [List.range_succ, List.flatMap_append]
      simp
    rw [e]
    exact this
theorem tab_at {CL C : Addr} {lrs : List LRec} {ls : List Ln} {H : Hp} (h : Lns CL C lrs ls H) {i : Nat} {e : (List Key × V) × Nd} (he : (nodeTab lrs ls ls.length)[i]? = some e) : ∃ a b, a < ls.length ∧ b < (lnth ls a).nodes.length ∧ e = (nodeKv lrs ls a b, nth (lnth ls a).nodes b) := by
  have hm := List.mem_of_getElem? he
  unfold nodeTab at hm
  obtain ⟨a, ha, hk⟩ := List.mem_flatMap.mp hm
  obtain ⟨b, hb, rfl⟩ := List.mem_map.mp hk
  exact ⟨a, b, List.mem_range.mp ha, List.mem_range.mp hb, rfl⟩
def bindKeys (lrs : List LRec) (ls : List Ln) (ws : List Wd) (n : Nat) : List (List Key) := (((nodeTab lrs ls ls.length).take n).filter fun e => decide (e.2.kind ∈ ws)).map (·.1.1)
/-- the binding places, exactly -/
theorem evP_bindsX {K : PySem.W.Frag} {mg : Str → Option Value} {CP dx CL C p D pw : Addr} {lrs : List LRec} {ls : List Ln} {H : Hp} {fs : List (Str × V)} {ws : List Wd} {a1 a2 a3 a4 a5 : Option V} (G : ProgC K mg CP) (N : NodeC K mg C) (h : Lns CL C lrs ls H) (hn0 : (ls.map (·.name)).Nodup) (ha0 : ∀ l ∈ ls, AtsApart l) (hp : H p = some (.ins CP dx fs)) (hf : fs.lookup ("nodes" : Str) = some (.ref D)) (hD : H D = some (.dT (nodeKvs lrs ls ls.length)))
    (hn : ls.length ≤ 1000) (hw : ∀ H, SqT K H pw (ws.map fun x => .str (S x))) :
    EvP (tLockE (tLc (iKeys (tFld K (tVar 0) "nodes")) (gName 5) (tTest (tOp (rIn K false) (tFld K (tDGet (tFld K (tVar 0) "nodes") (tVar 5)) "kind") (tC (.ref pw)))) (tVar 5) [5])) ([some (.ref p), a1, a2, a3, a4, a5] : L2.St) H fun v H1 => ∃ q bs, v = .ref q ∧ H q = none ∧ TupsK H1 bs (bindKeys lrs ls ws (nodeTab lrs ls ls.length).length) ∧ H1 q = some (.lst (bs.map V.ref)) := by
  have hlen : (nodeKvs lrs ls ls.length).length ≤ ls.length * 300 := nodeKvs_len (fun i hi => (h.at_ i hi).bd) (Nat.le_refl _)
  have tl : (nodeTab lrs ls ls.length).length = (nodeKvs lrs ls ls.length).length := by rw [tab_kvs, List.length_map]
  generalize hkv0 : nodeKvs lrs ls ls.length = kvs at *
  refine fun Q q => ⟨D, .dT kvs, hD, trivial, fun od => ?_⟩
  have hpD : p ≠ D := fun z => by rw [z, hD] at hp; cases hp
  have hp1 : (upd H D (.frz od (.dT kvs))) p = some (.ins CP dx fs) := (upd_ne hpD).trans hp
  have hD1 : (upd H D (.frz od (.dT kvs))) D = some (.frz od (.dT kvs)) := upd_same
  refine ⟨_, rfl, p, CP, dx, fs, _, rfl, hp1, G.cl, G.n4, hf, D, od, rfl, .inr ⟨kvs, hD1, fun DL hDL => ?_⟩⟩
  have hne : DL ≠ D := fun z => by rw [z, hD1] at hDL; cases hDL
  refine comp_walk (body := fun x H' Nx => gName 5 x (wipe ([some (.ref p), a1, a2, a3, a4, a5] : L2.St) [5]) H' fun σ2 H2 => wipe σ2 [5] = wipe ([some (.ref p), a1, a2, a3, a4, a5] : L2.St) [5] ∧ (tTest (tOp (rIn K false) (tFld K (tDGet (tFld K (tVar 0) "nodes") (tVar 5)) "kind") (tC (.ref pw)))) σ2 H2 fun b H3 => if b = true then tVar 5 σ2 H3 fun y H4 => ∃ acc, H4 DL = some (.lst acc) ∧ acc.length < sizeLine ∧ Nx (upd H4 DL (.lst (acc ++ [y]))) else Nx H3)
    (walk_keysT (d := D) (o := od) (kvs := kvs)) (fun i G' => Ex (upd H D (.frz od (.dT kvs))) G' ∧ ∃ bs, TupsK G' bs (bindKeys lrs ls ws i) ∧ G' DL = some (.lst (bs.map V.ref)) ∧ bs.length ≤ i) ⟨ex_put hDL (Ex.refl _), [], by simp [bindKeys, TupsK], upd_same, Nat.le_refl _⟩ (fun i G' _ hp => hp.1 _ _ hD1) (fun i G' x G2 hi hpv hy => ?_) (fun G' hpv => ?_)
  · obtain ⟨rfl, k, v, t, hkv, rfl, ht⟩ := hy
    obtain ⟨eG, bs, hb1, hb2, hbl⟩ := hpv
    have hte : ∃ e, (nodeTab lrs ls ls.length)[i]? = some e ∧ e.1 = (k, v) := by
      rw [← hkv0, tab_kvs, List.getElem?_map] at hkv
      cases z : (nodeTab lrs ls ls.length)[i]? with
      | none => rw [z] at hkv; cases hkv
      | some e => rw [z] at hkv; exact ⟨e, rfl, Option.some.inj hkv⟩
    obtain ⟨e, he, hekv⟩ := hte
    obtain ⟨i2, j2, hi2, hj2, rfl⟩ := tab_at h he
    have hvv : valV kvs k = some v := by
      have := keys_nodup (lrs := lrs) hn0 ha0 (Nat.le_refl ls.length)
      rw [hkv0] at this
      exact valV_one this hkv
    have hv2 : v = .ref (R (LR lrs i2).rs j2).a := (congrArg Prod.snd hekv).symm
    have hk2 : k = (nodeKv lrs ls i2 j2).1 := (congrArg Prod.fst hekv).symm
    subst hv2
    have ln := (h.at_ i2 hi2).nds.at_ j2 hj2
    have lnD : (R (LR lrs i2).rs j2).a ≠ D := fun z => by have := ln.ins; rw [z, hD] at this; cases this
    have lni := eG _ _ ((upd_ne lnD).trans ln.ins)
    refine ⟨rfl, ?_⟩
    have tt : EvT (tTest (tOp (rIn K false) (tFld K (tDGet (tFld K (tVar 0) "nodes") (tVar 5)) "kind") (tC (.ref pw)))) ([some (.ref p), a1, a2, a3, a4, some (.ref t)] : L2.St) G2 (decide ((nth (lnth ls i2).nodes j2).kind ∈ ws)) :=
      et_is (et_test (ev_op (ev_fld (ev_dget (a := D) (y := .ref t) (ev_fld (ev_var rfl) (eG _ _ hp1) G.cl G.n4 hf) (ev_var rfl) fun H1 e1 => .inr ⟨kvs, k, t, .inr ⟨od, e1 _ _ (eG _ _ hD1)⟩, rfl, e1 _ _ ht, hvv.symm⟩) lni N.cl N.n3 rfl) ev_c (rv_inT (hw G2) rfl flat_map))) inV_map
    have bk : bindKeys lrs ls ws (i + 1) = bindKeys lrs ls ws i ++ if (nth (lnth ls i2).nodes j2).kind ∈ ws then [k] else [] := by
      unfold bindKeys
      rw [List.take_add_one, he, List.filter_append, List.map_append]
      congr 1
      by_cases z : (nth (lnth ls i2).nodes j2).kind ∈ ws
      · rw [if_pos z, hk2]; simp [z]
      · rw [if_neg z]; simp [z]
    refine tt G2 (Ex.refl G2) _ fun H3 e3 => ?_
    cases hb : decide ((nth (lnth ls i2).nodes j2).kind ∈ ws) with
    | true =>
      rw [if_pos (of_decide_eq_true hb)] at bk
      rw [if_pos rfl]
      refine ⟨_, rfl, bs.map V.ref, e3 _ _ hb2, by rw [List.length_map, sizeLine_eq]; omega, ex_put hDL (eG.trans e3), bs ++ [t], ?_, by rw [upd_same, List.map_append]; rfl, by rw [List.length_append]; simp; exact hbl⟩
      rw [bk]
      refine TupsK.of (H := H3) (fun c xs hc => ?_) ((hb1.of fun c xs hc => e3 _ _ hc).app ⟨e3 _ _ ht, trivial⟩)
      have : c ≠ DL := fun z => by rw [z, e3 _ _ hb2] at hc; cases hc
      rw [upd_ne this]
      exact hc
    | false =>
      rw [if_neg (of_decide_eq_false hb), List.append_nil] at bk
      rw [if_neg (by simp)]
      exact ⟨eG.trans e3, bs, by rw [bk]; exact hb1.of fun c xs hc => e3 _ _ hc, e3 _ _ hb2, by omega⟩
  · obtain ⟨eG, bs, hb1, hb2, hbl⟩ := hpv
    rw [← tl] at hb1
    refine ⟨eG _ _ hD1, q _ _ (fun c o hc => ?_) ⟨DL, bs, rfl, (upd_ne hne).symm.trans hDL, hb1.of fun c xs hc => ?_, (upd_ne hne).trans hb2⟩⟩
    · by_cases z : c = D
      · rw [z, upd_same]; rw [z, hD] at hc; exact hc
      · rw [upd_ne z]
        exact eG _ _ ((upd_ne z).trans hc)
    · have : c ≠ D := fun z => by rw [z, eG _ _ hD1] at hc; cases hc
      rw [upd_ne this]
      exact hc
end K5
set_option Elab.async false
set_option linter.all false
set_option maxRecDepth 100000
set_option maxHeartbeats 4000000
namespace K5
open PySem PySem.Spec PyProof.Rows L2 Evl Xl SX Mi
def keysOf (kvs : List (List Key × V)) : List (List Key) := kvs.map (·.1)
theorem s_fldPX {K : PySem.W.Frag} {ta te : TE} {σ : L2.St} {H : Hp} {f : Str} {a C dx : Addr} {fs : List (Str × V)} {Pd : V → Hp → Prop} {D : Ends} (ha : H a = some (.ins C dx fs)) (h0 : Ev ta σ H (.ref a)) (h : EvP te σ H Pd) (hc : Cls K C) (hn : NoAttr K C f) (hl : fs.length < 1000) (hP : ∀ v H1 H2, Ex H H1 → Ex H1 H2 → Pd v H1 → Pd v H2)
    (k : ∀ v H1, Ex H H1 → Pd v H1 → D.nx σ (upd H1 a (.ins C dx (putF f v fs)))) : sFld K ta te f D σ H :=
  h _ fun v H1 e1 hv => h0 H1 e1 _ fun H2 e2 => ⟨a, C, dx, fs, rfl, e2 _ _ (e1 _ _ ha), hc, hn, hl, k v H2 (e1.trans e2) (hP v H1 H2 e1 e2 hv)⟩
theorem evB {te : TE} {σ : L2.St} {H : Hp} {ks : List (List Key)} (h : EvP te σ H fun v H1 => ∃ q bs, v = .ref q ∧ H q = none ∧ TupsK H1 bs ks ∧ H1 q = some (.lst (bs.map V.ref))) : EvP te σ H fun v H1 => ∃ p xs, v = .ref p ∧ H1 p = some (.lst xs) ∧ ∃ bs : List Addr, xs = bs.map V.ref ∧ TupsK H1 bs ks :=
  fun Q q => h Q fun v H1 e ⟨r, bs, a, b, c, d⟩ => q v H1 e ⟨r, _, a, d, bs, rfl, c⟩
section
variable {P : Program} {w : World} {K : PySem.W.Frag} {mg : Str → Option Value} {base : Heap} {f : Addr} {fd : FuncData}
def prF (text : Wd) (dl tp dn tl tb : Addr) : List (Str × V) := [("_text", .str (S text)), ("_lines", .ref dl), ("_parts", .ref tp), ("nodes", .ref dn), ("_places", .ref tl), ("_bindings", .ref tb)]
def BWS : List Wd := [[99, 97, 108, 108], [108, 101, 116], [112, 97, 105, 114]]
/-- a Program of this text and these lines stands at p -/
def ProgAt (CP CL C : Addr) (H : Hp) (p dx : Addr) (text : Wd) (ls : List Ln) : Prop := ∃ (lrs : List LRec) (dl tp dn tl tb : Addr) (ps bs : List Addr), H p = some (.ins CP dx (prF text dl tp dn tl tb)) ∧ Lns CL C lrs ls H ∧ H dl = some (.dK (lineKvs ls)) ∧ H tp = some (.tup ((ls.dropLast.map (·.name)).map fun x => .str (S x))) ∧
  H dn = some (.dT (nodeKvs lrs ls ls.length)) ∧ H tl = some (.tup (ps.map V.ref)) ∧ TupsK H ps (keysOf (nodeKvs lrs ls ls.length)) ∧ H tb = some (.tup (bs.map V.ref)) ∧ TupsK H bs (bindKeys lrs ls BWS (nodeTab lrs ls ls.length).length)
theorem isKeys_tups {H : Hp} : ∀ {kvs : List (List Key × V)} {bs : List Addr}, IsKeys H kvs bs → TupsK H bs (keysOf kvs) := by
  intro kvs
  induction kvs with
  | nil => intro bs h; cases h; trivial
  | cons kv r ih => intro bs h; cases h with | cons a b => exact ⟨a, ih b⟩
theorem evP_tupX {σ : L2.St} {H : Hp} {te : TE} {Pd : List V → Hp → Prop} (h : EvP te σ H fun v H1 => ∃ p xs, v = .ref p ∧ H1 p = some (.lst xs) ∧ Pd xs H1) (hm : ∀ xs H1 H2, Ex H1 H2 → Pd xs H1 → Pd xs H2) : EvP (tThen te (kTup K)) σ H fun v H1 => ∃ t xs, v = .ref t ∧ H t = none ∧ H1 t = some (.tup xs) ∧ Pd xs H1 :=
  fun Q q => h _ fun v H1 e1 ⟨p, xs, hv, hp, hd⟩ => .inl ⟨p, xs, hv, sq_of hp, fun t ht => q _ _ (e1.trans (ex_put ht (Ex.refl H1))) ⟨t, xs, rfl, fresh_back e1 ht, upd_same, hm _ _ _ (ex_put ht (Ex.refl H1)) hd⟩⟩
theorem TupsK.ex {H H' : Hp} (e : Ex H H') {ts : List Addr} {ks : List (List Key)} (h : TupsK H ts ks) : TupsK H' ts ks := h.of fun c xs hc => e _ _ hc
def spPrX (K : PySem.W.Frag) (CB CP CL C : Addr) : Sp := fun vs H Q E => ∃ (p dx : Addr) (x : V), vs = [.ref p, x] ∧ H p = some (.ins CP dx []) ∧
  ((∃ T, TyB K H x T ∧ T ≠ "str" ∧ ∀ d H', Ex H H' → H d = none → H' d = some (.xd [("value", .int 0)]) → E (.ref CB) (some d) H') ∨
  ∃ text : Wd, x = .str (S text) ∧ (text.length ≤ 9000 ∧ (TL.spl [10] 0 [] text).length ≤ 901) ∧ (∀ e, readProg text = .error e → ∀ d H', Ex H H' → H d = none → H' d = some (.xd [("value", .int (e : Nat))]) → E (.ref CB) (some d) H') ∧
    ∀ ls, readProg text = .ok ls → ∀ H', Keep (fun c => c = p) H H' → ProgAt CP CL C H' p dx text ls → Q .non H')
abbrev nG2 : List Str := ["self", "text", "lines", "line", "node", "place"]
abbrev sProg2 : Stmt := inClass (top 35) 0
theorem scG2 : FnScope nG ["self", "text"] (C8.fnScope sProg) := C8.fnScope_by (by decide +kernel)
theorem ok_programX {CB CP CL C fR : Addr} {fdR : FuncData} (F : C8.Fun K "__init__" "Program.__init__" sProg f fd) (T : Txt2 K w mg) (G : ProgC K mg CP) (N : NodeC K mg C) (L : LineC K mg CL)
    (FR : FnOk P w K mg base (L2.CX P w) 6 fR fdR ["text"] (spRP K CB CL C)) (mR : mg "read_program" = some (.ref fR)) (kR : PySem.W.keepIn K (.ref fR) = true) (bR : Binds K fdR ["text"] []) : FnOk P w K mg base (L2.CX P w) 7 f fd ["self", "text"] (spPrX K CB CP CL C) := by
  obtain ⟨pw, mw, hw⟩ := T.bwords
  refine fnX F scG2 (fun vs H Q E h => by obtain ⟨p, dx, x, rfl, _⟩ := h; rfl) (fun cdv A outer s H vs Q E hr h => ?_)
  obtain ⟨p, dx, x, rfl, hp, h⟩ := h
  refine ⟨_, pss_cons (ps_set (i := 2) scG2.nd rfl (Or.inl rfl) (pe_callS FR hr (by rfl) mR kR bR (fun σ => passAt (takes_of rfl rfl rfl rfl) σ) (pa_cons (pv 1) pa_nil)))
    (pss_cons (ps_fld (pv 0) (pv 1) rfl)
    (pss_cons (ps_fld (pv 0) (pe_dc (own := [("line", 3)]) (g := gName 3) (tt := tYes) (tk := tFld K (tVar 3) "name") (tv := tFld K (tVar 3) "told") rfl scG2.nd (pi_list (pv 2)) (blkOk_by (N := nG) (sc := C8.fnScope sProg) (by decide +kernel))
        (fun _ _ _ _ _ => pg_name (i := 3) scG2.nd rfl (Or.inl rfl)) (fun _ _ _ _ _ => pts_nil) (fun _ _ _ _ _ => pe_fld (pv 3) (by rfl)) (fun _ _ _ _ _ => pe_fld (pv 3) (by rfl))) rfl)
    (pss_cons (ps_fld (pv 0) (pe_tupleOf (by rfl) T.tuple_ (pe_lc (own := [("line", 3)]) (g := gName 3) (tt := tYes) (te := tFld K (tVar 3) "name") rfl scG2.nd (pi_list (pe_slice sl_list (pv 2) po_none (po_some (pe_un un_neg pe_int)))) (blkOk_by (N := nG) (sc := C8.fnScope sProg) (by decide +kernel))
        (fun _ _ _ _ _ => pg_name (i := 3) scG2.nd rfl (Or.inl rfl)) (fun _ _ _ _ _ => pts_nil) (fun _ _ _ _ _ => pe_fld (pv 3) (by rfl)))) rfl)
    (pss_cons (ps_fld (pv 0) (Xd.pe_dc2 (own := [("line", 3), ("node", 4)]) (vs1 := [4]) (g := gName 3) (g1 := gName 4) (wi1 := iList K (tFld K (tVar 3) "nodes")) (tk := tFld K (tVar 4) "place") (tv := tVar 4) rfl (Nat.lt_of_le_of_lt (Nat.le_trans (Nat.le_add_right _ _) (Nat.le_add_right _ _)) hr.un) scG2.nd (pi_list (pv 2)) (blkOk_by (N := nG) (sc := C8.fnScope sProg) (by decide +kernel)) (by decide)
        (fun _ _ _ _ _ => pg_name (i := 3) scG2.nd rfl (Or.inl rfl)) (fun _ _ _ _ _ => pi_list (pe_fld (pv 3) (by rfl))) (fun _ _ _ _ _ => pg_name (i := 4) scG2.nd rfl (Or.inl rfl)) (fun _ _ _ _ _ => pe_fld (pv 4) (by rfl)) (fun _ _ _ _ _ => pv 4)) rfl)
    (pss_cons (ps_fld (pv 0) (pe_tupleOf (by rfl) T.tuple_ (pe_callTy (call_list_dT rfl) (by rfl) T.list_ (by decide +kernel) (pa_cons (pe_fld (pv 0) rfl) pa_nil))) rfl)
    (pss_one (ps_fld (pv 0) (pe_tupleOf (by rfl) T.tuple_ (pe_lock (pe_lc (own := [("place", 5)]) (g := gName 5) (tt := tTest (tOp (rIn K false) (tFld K (tDGet (tFld K (tVar 0) "nodes") (tVar 5)) "kind") (tC (.ref pw)))) (te := tVar 5) rfl scG2.nd (pi_keys (pe_fld (pv 0) rfl)) (blkOk_by (N := nG) (sc := C8.fnScope sProg) (by decide +kernel))
        (fun _ _ _ _ _ => pg_name (i := 5) scG2.nd rfl (Or.inl rfl)) (fun _ _ _ _ _ => pts_one (pt_cmpR op_in_seq (pe_fld (pe_dget (by have := hr.un; show (A.deeper (envOfC "Program.__init__" (C8.fnScope sProg) s.heap.objs.size f cdv)).units + 1 < cLine; omega) (pe_fld (pv 0) (by rfl)) (pv 5) (fun _ _ => rfl)) (by rfl)) (pe_glob (v := .ref pw) (by rfl) mw rfl) rfl)) (fun _ _ _ _ _ => pv 5)))) rfl))))))), ?_⟩
  refine q_callS (vs := [x]) (ea_cons (ev_var rfl) ea_nil) fun H0 e0 => ⟨x, rfl, ?_⟩
  rcases h with ⟨t, ht, hne, k⟩ | ⟨text, rfl, hlt, kE, kQ⟩
  · exact .inl ⟨t, TyB_ex ht e0, hne, fun d H' e hd hd' => k d H' (e0.trans e) (fresh_back e0 hd) hd'⟩
  · refine .inr ⟨text, rfl, hlt, fun e he d H' ee hd hd' => kE e he d H' (e0.trans ee) (fresh_back e0 hd) hd', fun ls hls lrs ll H1 e1 hL hll hll0 hne hln => ?_⟩
    have e01 := e0.trans e1
    have hp1 := e01 _ _ hp
    have k0 := kQ ls hls
    obtain ⟨hnd, hat⟩ := readProg_facts hls
    have nxt : ∀ {G G' : Hp} {fs : List (Str × V)}, Keep (fun c => c = p) H1 G → Ex G G' → Keep (fun c => c = p) H1 (upd G' p (.ins CP dx fs)) := fun kk ee => (kk.ex ee).put rfl
    have hpl : ll ≠ p := fun z => by rw [z, hp1] at hll; cases hll
    refine q_fld hp1 (ev_var rfl) (v := .str (S text)) (ev_var rfl) G.cl G.n1 (by show 0 < 1000; decide) fun H2 e2 => ?_
    have kk2 := nxt (fs := putF "_text" (.str (S text)) []) (Keep.refl (fun c => c = p) H1) e2
    refine q_fldP upd_same (ev_var rfl) (evP_linesX (j := 3) (ll := ll) L (hL.keep hp1 kk2) hnd (kk2 _ _ hpl hll) (ev_var rfl) hln (fun _ => rfl) (fun _ => rfl)) G.cl G.n2 (by show 1 < 1000; decide) (fun v A1 A2 _ ee ⟨D, a, b, c⟩ => ⟨D, a, b, ee _ _ c⟩) fun v3 H3 e3 hv3 => ?_
    obtain ⟨dl, rfl, hdl0, hdl⟩ := hv3
    have dlp : dl ≠ p := fun z => by rw [z, upd_same] at hdl0; cases hdl0
    have kk3 := nxt (fs := putF "_lines" (.ref dl) (putF "_text" (.str (S text)) [])) kk2 e3
    have hdl3 : (upd H3 p (.ins CP dx (putF "_lines" (.ref dl) (putF "_text" (.str (S text)) [])))) dl = some (.dK (lineKvs ls)) := (upd_ne dlp).trans hdl
    have cut : EvL (tSl (rSlL K) (tVar 2) tNoPart (tPart (tUn (rU fun i => V.int (-i)) (tC (V.int 1))))) ([some (.ref p), some (.str (S text)), some (.ref ll), none, none, none] : L2.St) (upd H3 p (.ins CP dx (putF "_lines" (.ref dl) (putF "_text" (.str (S text)) [])))) (lrefs lrs.dropLast) := by
      have hcut : cutV (lrefs lrs) none (some (-1)) = lrefs lrs.dropLast := by
        rw [cut_last (fun z => by
          have lx : (lrefs lrs).length = ls.length := by unfold lrefs; rw [List.length_map, hL.len]
          rw [z] at lx
          cases ls with
          | nil => exact hne rfl
          | cons a b => simp at lx)]
        unfold lrefs
        rw [List.map_dropLast]
      rw [← hcut]
      exact el_sl (ev_var rfl) eo_none (eo_some (ev_un ev_c ru_neg)) (sq_of (kk3 _ _ hpl hll))
    have evl : ∀ {te : TE} {σ : L2.St} {G : Hp} {xs : List V}, EvL te σ G xs → EvP te σ G fun v G1 => ∃ q ys, v = .ref q ∧ G1 q = some (.lst ys) ∧ ys = xs := fun h Q q => h _ (Ex.refl _) _ fun r G1 _ e hr => q _ _ e ⟨r, _, rfl, hr, rfl⟩
    refine q_fldP upd_same (ev_var rfl) (evP_tupX (Pd := fun xs _ => xs = (ls.dropLast.map (·.name)).map fun x => .str (S x)) (evl (el_lnamesN (j := 3) L (hL.keep hp1 kk3).drop cut (by simp; omega) (fun _ => rfl) (fun _ => rfl))) fun _ _ _ _ h => h) G.cl G.n3 (by show 2 < 1000; decide) (fun v A1 A2 _ ee ⟨t, xs, a, b, c, d⟩ => ⟨t, xs, a, b, ee _ _ c, d⟩) fun v4 H4 e4 hv4 => ?_
    obtain ⟨tp, xs4, rfl, htp0, htp, rfl⟩ := hv4
    have tpp : tp ≠ p := fun z => by rw [z, upd_same] at htp0; cases htp0
    have kk4 := nxt (fs := putF "_parts" (.ref tp) (putF "_lines" (.ref dl) (putF "_text" (.str (S text)) []))) kk3 e4
    refine q_fldP upd_same (ev_var rfl) (evP_nodesX (ll := ll) L N (hL.keep hp1 kk4) hnd hat (kk4 _ _ hpl hll) hln) G.cl G.n4 (by show 3 < 1000; decide) (fun v A1 A2 _ ee ⟨D, a, b, c⟩ => ⟨D, a, b, ee _ _ c⟩) fun v5 H5 e5 hv5 => ?_
    obtain ⟨D, rfl, hD0, hD5⟩ := hv5
    have hDp : D ≠ p := fun z => by rw [z, upd_same] at hD0; cases hD0
    have kk5 := nxt (fs := putF "nodes" (.ref D) (putF "_parts" (.ref tp) (putF "_lines" (.ref dl) (putF "_text" (.str (S text)) [])))) kk4 e5
    have hD5' : (upd H5 p (.ins CP dx (putF "nodes" (.ref D) (putF "_parts" (.ref tp) (putF "_lines" (.ref dl) (putF "_text" (.str (S text)) [])))))) D = some (.dT (nodeKvs lrs ls ls.length)) := (upd_ne hDp).trans hD5
    refine q_fldP upd_same (ev_var rfl) (evP_tupX (Pd := fun xs G1 => ∃ ps : List Addr, xs = ps.map V.ref ∧ TupsK G1 ps (keysOf (nodeKvs lrs ls ls.length))) ?_ fun _ _ _ e ⟨ps, a, b⟩ => ⟨ps, a, b.ex e⟩) G.cl G.n5 (by show 4 < 1000; decide) (fun v A1 A2 _ ee ⟨t, xs, a, b, c, ps, d, f⟩ => ⟨t, xs, a, b, ee _ _ c, ps, d, f.ex ee⟩) fun v6 H6 e6 hv6 => ?_
    · refine fun Q' q => ⟨_, rfl, p, CP, dx, _, _, rfl, upd_same, G.cl, G.n4, rfl, D, _, rfl, .inl hD5', fun t bs ht hk => q _ _ (ex_put ht (Ex.refl _)) ⟨t, _, rfl, upd_same, bs, rfl, (isKeys_tups hk).ex (ex_put ht (Ex.refl _))⟩⟩
    · obtain ⟨tl, _, rfl, htl0, htl, ps, rfl, hps⟩ := hv6
      have tlp : tl ≠ p := fun z => by rw [z, upd_same] at htl0; cases htl0
      have kk6 := nxt (fs := putF "_places" (.ref tl) (putF "nodes" (.ref D) (putF "_parts" (.ref tp) (putF "_lines" (.ref dl) (putF "_text" (.str (S text)) []))))) kk5 e6
      refine s_fldPX upd_same (ev_var rfl) (evP_tupX (Pd := fun xs G1 => ∃ bs : List Addr, xs = bs.map V.ref ∧ TupsK G1 bs (bindKeys lrs ls BWS (nodeTab lrs ls ls.length).length)) (evB (evP_bindsX (ws := BWS) G N (hL.keep hp1 kk6) hnd hat upd_same rfl ((upd_ne hDp).trans (e6 _ _ hD5')) hln hw)) fun _ _ _ e ⟨ps, a, b⟩ => ⟨ps, a, b.ex e⟩) G.cl G.n6 (by show 5 < 1000; decide) (fun v A1 A2 _ ee ⟨t, xs, a, b, c, ps, d, f⟩ => ⟨t, xs, a, b, ee _ _ c, ps, d, f.ex ee⟩) fun v7 H7 e7 hv7 => ?_
      obtain ⟨tb, _, rfl, htb0, htb, bs, rfl, hbs⟩ := hv7
      have tbp : tb ≠ p := fun z => by rw [z, upd_same] at htb0; cases htb0
      have kk7 := nxt (fs := prF text dl tp D tl tb) kk6 e7
      have kp : ∀ {A B : Hp} {o : HO} {c : Addr} {u : HO}, Ex A B → A c = some u → c ≠ p → (upd B p o) c = some u := fun e hc n => (upd_ne n).trans (e _ _ hc)
      have tk : ∀ {A B : Hp} {fs fs' : List (Str × V)} {ts : List Addr} {ks : List (List Key)}, A p = some (.ins CP dx fs) → TupsK A ts ks → TupsK (upd A p (.ins CP dx fs')) ts ks := fun hA h => h.of fun c xs hc => by
        rw [upd_ne fun z => by rw [z, hA] at hc; cases hc]; exact hc
      have p6 : H6 p = some (.ins CP dx (putF "nodes" (.ref D) (putF "_parts" (.ref tp) (putF "_lines" (.ref dl) (putF "_text" (.str (S text)) []))))) := e6 _ _ upd_same
      have p7 : H7 p = some (.ins CP dx (putF "_places" (.ref tl) (putF "nodes" (.ref D) (putF "_parts" (.ref tp) (putF "_lines" (.ref dl) (putF "_text" (.str (S text)) [])))))) := e7 _ _ upd_same
      refine k0 _ (fun c o hc hh => kk7 c o hc (e01 _ _ hh)) ⟨lrs, dl, tp, D, tl, tb, ps, bs, upd_same, hL.keep hp1 kk7, ?_, ?_, ?_, ?_, ?_, ?_, ?_⟩
      · exact kp e7 (kp e6 (kp e5 (kp e4 hdl3 dlp) dlp) dlp) dlp
      · exact kp e7 (kp e6 (kp e5 ((upd_ne tpp).trans htp) tpp) tpp) tpp
      · exact kp e7 (kp e6 hD5' hDp) hDp
      · exact kp e7 ((upd_ne tlp).trans htl) tlp
      · exact tk (B := H7) p7 ((tk (B := H6) p6 hps).ex e7)
      · exact (upd_ne tbp).trans htb
      · exact tk (B := H7) p7 hbs
end
end K5
set_option Elab.async false
set_option linter.all false
set_option maxRecDepth 100000
set_option maxHeartbeats 4000000
namespace K5
open PySem PySem.Spec PyProof.Rows L2 Evl Xl SX Mi
structure Txt3 (K : PySem.W.Frag) (w : World) (mg : Str → Option Value) : Prop extends Txt2 K w mg where
  sum_ : mg "sum" = none
  abs_ : mg "abs" = none
  repr_ : mg "repr" = none
theorem op_powB {X : Cx} : OpR X (binaryOp .Pow) (rI (fun i j => 0 ≤ j ∧ (PySem.Builtin.Int.intBits i : Int) * j ≤ 2 ^ 27) fun i j => .int (i ^ j.toNat)) :=
  opI fun _ _ _ _ _ _ _ hc q => PyProof.Rows.pow_int hc.1 hc.2 q
theorem ev_int1 {te : TE} {σ : L2.St} {H : Hp} {i : Int} (h : Ev te σ H (.int i)) : Ev (tCB (fun xs H Q => (∃ i, xs = [V.int i] ∧ Q (V.int i) H) ∨ ∃ k, xs = [V.bl k] ∧ Q (V.int (if k = true then 1 else 0)) H) (tCons te tNil)) σ H (.int i) :=
  ev_cb (ea_cons h ea_nil) fun H1 e1 Q q => .inl ⟨i, rfl, q H1 (Ex.refl H1)⟩
theorem ev_intB {te : TE} {σ : L2.St} {H : Hp} {b : Bool} (h : Ev te σ H (.bl b)) : Ev (tCB (fun xs H Q => (∃ i, xs = [V.int i] ∧ Q (V.int i) H) ∨ ∃ k, xs = [V.bl k] ∧ Q (V.int (if k = true then 1 else 0)) H) (tCons te tNil)) σ H (.int (if b = true then 1 else 0)) :=
  ev_cb (ea_cons h ea_nil) fun H1 e1 Q q => .inr ⟨b, rfl, q H1 (Ex.refl H1)⟩
theorem ev_abs {te : TE} {σ : L2.St} {H : Hp} {i : Int} (h : Ev te σ H (.int i)) : Ev (tCB (fun xs H Q => ∃ i, xs = [V.int i] ∧ Q (V.int (if i < 0 then -i else i)) H) (tCons te tNil)) σ H (.int (if i < 0 then -i else i)) :=
  ev_cb (ea_cons h ea_nil) fun H1 e1 Q q => ⟨i, rfl, q H1 (Ex.refl H1)⟩
theorem nat_lt {i m : Int} {n : Nat} (h0 : 0 ≤ i) (h1 : i < m) (h2 : m ≤ ((2 ^ n : Nat) : Int)) : i.natAbs < 2 ^ n := by
  have h := Int.natAbs_of_nonneg h0
  have : (i.natAbs : Int) < ((2 ^ n : Nat) : Int) := by rw [h]; exact Int.lt_of_lt_of_le h1 h2
  exact Int.ofNat_lt.mp this
theorem bit01 (b : Bool) : 0 ≤ (if b = true then (1 : Int) else 0) ∧ (if b = true then (1 : Int) else 0).natAbs < 2 ^ 2 := by cases b <;> decide
end K5
set_option Elab.async false
set_option linter.all false
set_option maxRecDepth 100000
set_option maxHeartbeats 4000000
namespace K5
open PySem PySem.Spec PyProof.Rows L2 Evl Xl SX Mi
/-- the pot stands at p, so many draws behind its own number -/
def PotAt (p : Addr) (c : Nat) (H : Hp) : Prop := ∃ o m : Int, H p = some (.lst [.int o, .int m, .int c]) ∧ 0 ≤ o ∧ 0 ≤ m ∧ m < 2305843009213693921
theorem PotAt.ex {p : Addr} {c : Nat} {H H' : Hp} (h : PotAt p c H) (e : Ex H H') : PotAt p c H' := by
  obtain ⟨o, m, h1, h2⟩ := h; exact ⟨o, m, e _ _ h1, h2⟩
def spTk : Sp := fun vs H Q _ => ∃ (p : Addr) (c u : Nat), vs = [.ref p, .int u] ∧ 0 < u ∧ u ≤ 1000 ∧ PotAt p c H ∧ c ≤ 2000000 ∧
  ∀ (r c' : Nat) (H' : Hp), r < u → Keep (fun x => x = p) H H' → PotAt p c' H' → c' ≤ c + 1 → Q (.int r) H'
theorem modU (x : Int) {u : Nat} (h : 0 < u) : ∃ r : Nat, r < u ∧ x % (u : Int) = (r : Int) := by
  have h1 := Int.emod_nonneg x (show (u : Int) ≠ 0 by omega)
  have h2 := Int.emod_lt_of_pos x (show (0 : Int) < (u : Int) by omega)
  exact ⟨(x % (u : Int)).toNat, by omega, by omega⟩
def PRS : List Int := [2147483647, 2147483629, 2147483587, 2147483579, 2147483563]
theorem prs_at {n : Nat} (h : n < 5) : ∃ q : Int, (PRS.map V.int)[n]? = some (.int q) ∧ 0 < q ∧ q ≤ 2147483647 := by
  match n, h with
  | 0, _ => exact ⟨_, rfl, by decide, by decide⟩
  | 1, _ => exact ⟨_, rfl, by decide, by decide⟩
  | 2, _ => exact ⟨_, rfl, by decide, by decide⟩
  | 3, _ => exact ⟨_, rfl, by decide, by decide⟩
  | 4, _ => exact ⟨_, rfl, by decide, by decide⟩
section
variable {P : Program} {w : World} {K : PySem.W.Frag} {mg : Str → Option Value} {base : Heap} {f : Addr} {fd : FuncData}
abbrev nTk : List Str := ["pot", "upto", "digit", "prime", "blend"]
theorem scTk : FnScope nTk ["pot", "upto"] (C8.fnScope (top 39)) := C8.fnScope_by (by decide +kernel)
theorem ok_take (F : C8.Def K mg "_law_take" (top 39) f fd) (b : Binds K fd ["pot", "upto"] []) (T : Txt3 K w mg) : C8.Cal P w K mg base 1 "_law_take" spTk [] := by
  refine C8.cal0 F b .nil scTk (fun vs H Q E h => by obtain ⟨p, c, u, rfl, _⟩ := h; rfl) (fun cdv A outer s H vs Q E hr h => ?_)
  obtain ⟨p, c, u, rfl, hu0, hu1, ⟨o, m, hp, ho, hm0, hm1⟩, hc5, k⟩ := h
  have u0 : (0 : Int) < (u : Int) := by omega
  refine ⟨_, pss_cons (ps_if (pt_cmpR op_gt (pe_ix ix_list (pv 0) pe_int (fun _ _ => rfl)) pe_int (nomark _))
      (pss_cons (ps_set (i := 2) scTk.nd rfl (Or.inl rfl) (pe_op op_mod (pe_callTy call_int1 (by rfl) T.int_ (by decide +kernel) (pa_cons (pe_ix ix_list (pv 0) pe_int (fun _ _ => rfl)) pa_nil)) (pv 1)))
      (pss_cons (ps_asg (pe_op op_fdiv (pe_ix ix_list (pv 0) pe_int (fun _ _ => rfl)) (pv 1)) (pg_sub (pv 0) pe_int set_list))
      (pss_one (ps_ret (pv 2))))) pss_nil)
    (pss_cons (ps_asg (pe_op op_add (pe_ix ix_list (pv 0) pe_int (fun _ _ => rfl)) pe_int) (pg_sub (pv 0) pe_int set_list))
    (pss_cons (ps_set (i := 3) scTk.nd rfl (Or.inl rfl) (pe_ix ix_list (pe_lst (pa_cons pe_int (pa_cons pe_int (pa_cons pe_int (pa_cons pe_int (pa_cons pe_int pa_nil)))))) (pe_op op_mod (pe_callTy call_int1 (by rfl) T.int_ (by decide +kernel) (pa_cons (pe_ix ix_list (pv 0) pe_int (fun _ _ => rfl)) pa_nil)) pe_int) (fun _ _ => rfl)))
    (pss_cons (ps_set (i := 4) scTk.nd rfl (Or.inl rfl) (pe_op op_mod (pe_callTy call_int1 (by rfl) T.int_ (by decide +kernel) (pa_cons (pe_op op_pow (pe_callTy call_int1 (by rfl) T.int_ (by decide +kernel) (pa_cons (pe_op op_add (pe_op op_add (pe_ix ix_list (pv 0) pe_int (fun _ _ => rfl)) (pe_op op_mulW (pe_op op_mulW pe_int (pe_ix ix_list (pv 0) pe_int (fun _ _ => rfl))) (pe_ix ix_list (pv 0) pe_int (fun _ _ => rfl)))) pe_int) pa_nil)) pe_int) pa_nil)) (pv 3)))
    (pss_one (ps_ret (pe_op op_mod (pe_callTy call_int1 (by rfl) T.int_ (by decide +kernel) (pa_cons (pe_op op_fdiv (pe_op op_mulW (pv 4) (pe_op op_add (pe_op op_mod (pe_callTy call_int1 (by rfl) T.int_ (by decide +kernel) (pa_cons (pv 4) pa_nil)) pe_int) (pe_op op_mulW pe_int (pe_ix ix_list (pv 0) pe_int (fun _ _ => rfl))))) pe_int) pa_nil)) (pv 1))))))), ?_⟩
  have v0 : ∀ {σ : L2.St} {G : Hp}, σ[0]? = some (some (.ref p)) → Ev (tVar 0) σ G (.ref p) := fun h => ev_var h
  have ixp : ∀ {σ : L2.St} {G : Hp} {xs : List V} {n : Nat} {v : V}, σ[0]? = some (some (.ref p)) → G p = some (.lst xs) → xs[n]? = some v → Ev (tOp (rIxL K) (tVar 0) (tC (.int n))) σ G v := fun h hG hx => ev_op (ev_var h) ev_c (rv_ixL (sq_of hG) (atI_nat hx))
  refine q_when (b := decide (0 < o)) (et_is (et_test (ev_op (ixp (n := 0) rfl hp rfl) ev_c rv_I0)) rfl) (fun hb H1 e1 => ?_) (fun hb H1 e1 => ?_)
  · refine q_asg (v := .int (o % (u : Int))) (ev_op (ev_int1 (ixp (n := 0) rfl (e1 _ _ hp) rfl)) (ev_var rfl) (rv_I u0)) fun H2 e2 => ?_
    have e12 := e1.trans e2
    refine q_setL (j := 0) (v := .int (o / (u : Int))) (e12 _ _ hp) (ev_op (ixp (n := 0) rfl (e12 _ _ hp) rfl) (ev_var rfl) (rv_I ⟨by omega, by omega⟩)) (ev_var rfl) ev_c (by show 0 < 3; decide) fun H3 e3 => ?_
    obtain ⟨r, hr14, hre⟩ := modU o hu0
    refine s_ret (v := .int r) (ev_is (ev_var rfl) (by rw [hre])) fun H4 e4 => k r c H4 hr14 (Keep.ex (Keep.put (T := fun c => c = p) (Keep.of (e12.trans e3)) rfl) e4) ⟨o / (u : Int), m, e4 _ _ upd_same, Int.ediv_nonneg ho (by omega), hm0, hm1⟩ (by omega)
  · refine q_setL (j := 2) (v := .int ((c : Int) + 1)) (e1 _ _ hp) (ev_op (ixp (n := 2) rfl (e1 _ _ hp) rfl) ev_c rv_I0) (ev_var rfl) ev_c (by show 2 < 3; decide) fun H2 e2 => ?_
    have hp2 : (upd H2 p (.lst ([V.int o, .int m, .int c].set 2 (.int ((c : Int) + 1))))) p = some (.lst [.int o, .int m, .int ((c : Int) + 1)]) := upd_same
    have k2 : Keep (fun c => c = p) H (upd H2 p (.lst ([V.int o, .int m, .int c].set 2 (.int ((c : Int) + 1))))) := (Keep.of (e1.trans e2)).put rfl
    generalize upd H2 p (.lst ([V.int o, .int m, .int c].set 2 (.int ((c : Int) + 1)))) = G at hp2 k2
    generalize hd : (c : Int) + 1 = d at hp2
    have d0 : 0 ≤ d := by omega
    have d6 : d ≤ 2000001 := by omega
    have dw : d.natAbs < 2 ^ 21 := nat_lt (m := 2000002) d0 (by omega) (by decide)
    obtain ⟨n, hn5, hne⟩ : ∃ n : Nat, n < 5 ∧ d % 5 = (n : Int) := ⟨(d % 5).toNat, by omega, by omega⟩
    obtain ⟨pr, hpr, pr0, pr1⟩ := prs_at hn5
    refine q_asg (v := .int pr) ?_ fun H3 e3 => ?_
    · have hl : EvL (tLst (tCons (tC (.int 2147483647)) (tCons (tC (.int 2147483629)) (tCons (tC (.int 2147483587)) (tCons (tC (.int 2147483579)) (tCons (tC (.int 2147483563)) tNil)))))) ([some (.ref p), some (.int u), none, none, none] : L2.St) G (PRS.map V.int) :=
        el_lst (ea_cons ev_c (ea_cons ev_c (ea_cons ev_c (ea_cons ev_c (ea_cons ev_c ea_nil))))) (by show 5 ≤ 100000; decide)
      exact fun H1 e Q' q => hl H1 e _ fun t H4 ht e4 hx => (ev_is (ev_op (ev_int1 (ixp (n := 2) rfl hp2 rfl)) ev_c (rv_I (by decide))) (by rw [hne]) : Ev _ _ G (.int n)) H4 (e.trans e4) _ fun H5 e5 => ⟨t, _, n, .int pr, rfl, rfl, sq_of (e5 _ _ hx), atI_nat hpr, q H5 (e4.trans e5)⟩
    · have hp3 := e3 _ _ hp2
      have w1 : (100025 * d).natAbs < 2 ^ 38 := nat_lt (m := 274877906944) (by omega) (by omega) (by decide)
      have sq : 0 ≤ 100025 * d * d ∧ 100025 * d * d ≤ 100025 * 2000001 * 2000001 := by
        have h1 : 0 ≤ 100025 * d := by omega
        have h2 : 100025 * d ≤ 100025 * 2000001 := by omega
        exact ⟨Int.mul_nonneg h1 d0, Int.le_trans (Int.mul_le_mul_of_nonneg_right h2 d0) (Int.mul_le_mul_of_nonneg_left d6 (by decide))⟩
      refine q_asg (v := .int (((m + 100025 * d * d + 1139) ^ (3 : Int).toNat) % pr)) ?_ fun H4 e4 => ?_
      · refine ev_op (ev_int1 (ev_op (ev_int1 (ev_op (ev_op (ixp (n := 1) rfl hp3 rfl) (ev_op (ev_op ev_c (ixp (n := 2) rfl hp3 rfl) (rv_I (wide_mul (a := 20) (b := 21) (by decide) dw (by decide) (by decide) (by decide)))) (ixp (n := 2) rfl hp3 rfl) (rv_I (wide_mul (a := 38) (b := 21) w1 dw (by decide) (by decide) (by decide)))) rv_I0) ev_c rv_I0)) ev_c (rv_I ⟨by decide, by decide, ?_⟩))) (ev_var rfl) (rv_I pr0)
        have := sq.1
        have := sq.2
        exact nat_lt (m := 2305843009213693921 + 500000000000000000) (by omega) (by omega) (by decide)
      · have hp4 := e4 _ _ hp3
        generalize hbl : ((m + 100025 * d * d + 1139) ^ (3 : Int).toNat) % pr = bl
        have b0 : 0 ≤ bl := by rw [← hbl]; exact Int.emod_nonneg _ (by omega)
        have b1 : bl < pr := by rw [← hbl]; exact Int.emod_lt_of_pos _ pr0
        obtain ⟨r, hr14, hre⟩ := modU (bl * (bl % 10687 + 369 * d) / 241) hu0
        refine s_ret (v := .int r) (ev_is (ev_op (ev_int1 (ev_op (ev_op (ev_var rfl) (ev_op (ev_op (ev_int1 (ev_var rfl)) ev_c (rv_I (by decide))) (ev_op ev_c (ixp (n := 2) rfl hp4 rfl) (rv_I (wide_mul (a := 20) (b := 21) (by decide) dw (by decide) (by decide) (by decide)))) rv_I0) (rv_I (wide_mul (a := 40) (b := 40) ?_ ?_ (by decide) (by decide) (by decide)))) ev_c (rv_I ⟨by decide, by decide⟩))) (ev_var rfl) (rv_I u0)) (by rw [hre])) fun H5 e5 => k r (c + 1) H5 hr14 ((k2.ex (e3.trans e4)).ex e5) ⟨o, m, by rw [show ((c + 1 : Nat) : Int) = d by omega]; exact e5 _ _ hp4, ho, hm0, hm1⟩ (by omega)
        · exact nat_lt (m := 2147483648) b0 (by omega) (by decide)
        · exact nat_lt (m := 800000000) (by omega) (by omega) (by decide)
/-- one of some -/
def spOfG (K : PySem.W.Frag) : Sp := fun vs H Q _ => ∃ (p s : Addr) (c : Nat) (xs : List V), vs = [.ref p, .ref s] ∧ PotAt p c H ∧ c ≤ 2000000 ∧ H s = some (.lst xs) ∧ 0 < xs.length ∧ xs.length ≤ 1000 ∧ s ≠ p ∧
  ∀ (v : V) (c' : Nat) (H' : Hp), v ∈ xs → Keep (fun x => x = p) H H' → PotAt p c' H' → c' ≤ c + 1 → Q v H'
theorem scOf : FnScope ["pot", "some"] ["pot", "some"] (C8.fnScope (top 40)) := C8.fnScope_by (by decide +kernel)
theorem ok_of (F : C8.Def K mg "_law_of" (top 40) f fd) (b : Binds K fd ["pot", "some"] []) (T : Txt3 K w mg) (cT : C8.Cal P w K mg base 1 "_law_take" spTk []) : C8.Cal P w K mg base 2 "_law_of" (spOfG K) [] := by
  refine C8.cal0 F b .nil scOf (fun vs H Q E h => by obtain ⟨p, s, c, xs, rfl, _⟩ := h; rfl) (fun cdv A outer s H vs Q E hr h => ?_)
  obtain ⟨p, a, c, xs, rfl, hp, hc, ha, hx0, hx1, hne, k⟩ := h
  refine ⟨_, pss_one (ps_ret (pe_ix ix_list (pv 1) (C8.pe_c cT hr (by decide) (by rfl) (pa_cons (pv 0) (pa_cons (pe_callB call_len_seq (by rfl) T.len_ boot_len (pa_cons (pv 1) pa_nil)) pa_nil))) (fun _ _ => rfl))), ?_⟩
  refine ⟨_, rfl, ?_⟩
  refine (ea_cons (ev_var rfl) (ea_cons (ev_len (ev_var rfl) (sq_of ha)) ea_nil) : EvA (tCons (tVar 0) (tCons (tCB (rLenS K) (tCons (tVar 1) tNil)) tNil)) (start ["pot", "some"] [V.ref p, .ref a]) H [.ref p, .int xs.length]) H (Ex.refl H) _ fun H1 e1 => ?_
  refine ⟨p, c, xs.length, rfl, hx0, hx1, hp.ex e1, hc, fun r c' H' hr14 K' P' hc' => ?_⟩
  obtain ⟨v, hv⟩ : ∃ v, xs[r]? = some v := ⟨xs[r]'(by omega), List.getElem?_eq_getElem (by omega)⟩
  exact ⟨a, xs, r, v, rfl, rfl, sq_of (K' _ _ hne (e1 _ _ ha)), atI_nat hv, k v c' H' (List.mem_of_getElem? hv) (fun c u n hc => K' c u n (e1 _ _ hc)) P' hc'⟩
end
end K5
set_option Elab.async false
set_option linter.all false
set_option maxRecDepth 100000
set_option maxHeartbeats 4000000
namespace K5
open PySem PySem.Spec PyProof.Rows L2 Evl Xl SX Mi
/-- kinds of what is drawn -/
inductive Kd where
  | n
  | f (a b : Kd)
  | p (a b : Kd)
def Kd.dep : Kd → Nat
  | .n => 0
  | .f a b => 1 + max a.dep b.dep
  | .p a b => 1 + max a.dep b.dep
def KdAt (H : Hp) : V → Kd → Prop
  | v, .n => v = .str (Str.ofString "n")
  | v, .f a b => ∃ (t : Addr) (x y : V), v = .ref t ∧ H t = some (.tup [.str (Str.ofString "f"), x, y]) ∧ KdAt H x a ∧ KdAt H y b
  | v, .p a b => ∃ (t : Addr) (x y : V), v = .ref t ∧ H t = some (.tup [.str (Str.ofString "p"), x, y]) ∧ KdAt H x a ∧ KdAt H y b
theorem KdAt.mono {H H' : Hp} (hk : ∀ t xs, H t = some (.tup xs) → H' t = some (.tup xs)) : ∀ {k : Kd} {v : V}, KdAt H v k → KdAt H' v k := by
  intro k
  induction k with
  | n => intro v h; exact h
  | f a b iha ihb => rintro v ⟨t, x, y, rfl, ht, hx, hy⟩; exact ⟨t, x, y, rfl, hk _ _ ht, iha hx, ihb hy⟩
  | p a b iha ihb => rintro v ⟨t, x, y, rfl, ht, hx, hy⟩; exact ⟨t, x, y, rfl, hk _ _ ht, iha hx, ihb hy⟩
theorem KdAt.ex {H H' : Hp} {k : Kd} {v : V} (h : KdAt H v k) (e : Ex H H') : KdAt H' v k := h.mono fun _ _ h => e _ _ h
/-- what is a tuple is no pot, so it is kept -/
theorem pot_tup {p : Addr} {c : Nat} {H H' : Hp} (hp : PotAt p c H) (hk : Keep (fun x => x = p) H H') : ∀ t xs, H t = some (.tup xs) → H' t = some (.tup xs) := fun t xs h =>
  hk _ _ (fun e => by obtain ⟨o, m, h1, _⟩ := hp; rw [e, h1] at h; cases h) h
theorem KdAt.keep {p : Addr} {c : Nat} {H H' : Hp} {k : Kd} {v : V} (h : KdAt H v k) (hp : PotAt p c H) (e : Keep (fun x => x = p) H H') : KdAt H' v k := h.mono (pot_tup hp e)
theorem ev_ixL {K : PySem.W.Frag} {tl ti : TE} {σ : L2.St} {H : Hp} {xs : List V} {n : Nat} {v : V} (hl : EvL tl σ H xs) (hi : Ev ti σ H (.int n)) (hx : xs[n]? = some v) : Ev (tOp (rIxL K) tl ti) σ H v :=
  fun H1 e Q q => hl H1 e _ fun t H2 ht e2 hxs => hi H2 (e.trans e2) _ fun H3 e3 => ⟨t, _, n, v, rfl, rfl, sq_of (e3 _ _ hxs), atI_nat hx, q H3 (e2.trans e3)⟩
theorem r_call {sp : Sp} {dvs vs : List V} {E : XK} {ta : TA} {σ : L2.St} {H : Hp} {Q : VK} (h : EvA ta σ H vs) (k : ∀ H1, Ex H H1 → sp (vs ++ dvs) H1 Q E) : tCall sp dvs E ta σ H Q := h H (Ex.refl H) _ k
abbrev Kp (p : Addr) (H H' : Hp) : Prop := Keep (fun x => x = p) H H'
theorem Kp.pre {p : Addr} {H H1 H2 : Hp} (e : Ex H H1) (k : Kp p H1 H2) : Kp p H H2 := fun c u n hc => k c u n (e _ _ hc)
def costK : Nat → Nat
  | 0 => 1
  | d + 1 => 1 + 2 * costK d
theorem costK_pos (d : Nat) : 0 < costK d := by cases d <;> simp only [costK] <;> omega
/-- a kind is drawn, d - 1 deep -/
def spKd (d : Nat) : Sp := fun vs H Q _ => ∃ (p : Addr) (c e : Nat), d = e + 1 ∧ vs = [.ref p, .int e] ∧ PotAt p c H ∧ c + costK e ≤ 2000000 ∧
  ∀ (v : V) (k : Kd) (c' : Nat) (H' : Hp), Kp p H H' → PotAt p c' H' → c' ≤ c + costK e → KdAt H' v k → k.dep ≤ e → Q v H'
section
variable {P : Program} {w : World} {K : PySem.W.Frag} {mg : Str → Option Value} {base : Heap} {f : Addr} {fd : FuncData}
abbrev nKd : List Str := ["pot", "deep", "way"]
theorem scKd : FnScope nKd ["pot", "deep"] (C8.fnScope (top 44)) := C8.fnScope_by (by decide +kernel)
theorem ok_kind (F : C8.Def K mg "_law_drawn_kind" (top 44) f fd) (b : Binds K fd ["pot", "deep"] []) (T : Txt3 K w mg) (cT : C8.Cal P w K mg base 1 "_law_take" spTk []) : ∀ d, C8.Cal P w K mg base (2 + d) "_law_drawn_kind" (spKd d) [] := by
  intro d
  induction d with
  | zero => exact C8.cal0 F b .nil scKd (k := 1) (fun vs H Q E h => by obtain ⟨p, c, e, hd, _⟩ := h; omega) (fun cdv A outer s H vs Q E hr h => by obtain ⟨p, c, e, hd, _⟩ := h; omega)
  | succ d ih =>
    refine C8.cal0 F b .nil scKd (k := 2 + d) (fun vs H Q E h => by obtain ⟨p, c, e, _, rfl, _⟩ := h; rfl) (fun cdv A outer s H vs Q E hr h => ?_)
    obtain ⟨p, c, e, hd, rfl, hp, hc, k⟩ := h
    have hed : e = d := by omega
    subst hed
    refine ⟨_, pss_cons (ps_set (i := 2) scKd.nd rfl (Or.inl rfl) (C8.pe_c cT hr (by omega) (by rfl) (pa_cons (pv 0) (pa_cons (pe_ifExp (pt_cmpR op_gt (pv 1) pe_int (nomark _)) pe_int pe_int) pa_nil))))
      (pss_cons (ps_if (pt_cmpR op_lt (pv 2) pe_int (nomark _)) (pss_one (ps_ret pe_str)) pss_nil)
      (pss_one (ps_ret (pe_tup (pa_cons (pe_ix ix_list (pe_lst (pa_cons pe_str (pa_cons pe_str (pa_cons pe_str pa_nil)))) (pe_op op_sub (pv 2) pe_int) (fun _ _ => rfl))
        (pa_cons (C8.pe_c ih hr (by omega) (by rfl) (pa_cons (pv 0) (pa_cons (pe_op op_sub (pv 1) pe_int) pa_nil))) (pa_cons (C8.pe_c ih hr (by omega) (by rfl) (pa_cons (pv 0) (pa_cons (pe_op op_sub (pv 1) pe_int) pa_nil))) pa_nil))))))), ?_⟩
    obtain ⟨u, hu0, hu5, hu2, hu⟩ : ∃ u : Nat, 0 < u ∧ u ≤ 5 ∧ (e = 0 → u = 2) ∧ Ev (tIf (tTest (tOp (rI0 fun i j => V.bl (decide (j < i))) (tVar 1) (tC (.int 0)))) (tC (.int 5)) (tC (.int 2))) (start nKd [V.ref p, .int e]) H (.int u) := by
      by_cases h0 : e = 0
      · refine ⟨2, by decide, by decide, fun _ => rfl, ev_if (b := false) (et_is (et_test (ev_op (ev_var rfl) ev_c rv_I0)) (by simp [h0])) (fun z => by cases z) fun _ => ev_c⟩
      · refine ⟨5, by decide, by decide, fun z => absurd z h0, ev_if (b := true) (et_is (et_test (ev_op (ev_var rfl) ev_c rv_I0)) (by simp; omega)) (fun _ => ev_c) fun z => by cases z⟩
    have hck := costK_pos e
    refine q_callA (vs := [.ref p, .int u]) (ea_cons (ev_var rfl) (ea_cons hu ea_nil)) fun H1 e1 => ⟨p, c, u, rfl, hu0, by omega, hp.ex e1, by omega, fun r c1 H2 hr k2 hp2 hc2 => ?_⟩
    refine q_when (b := decide ((r : Int) < 2)) (et_is (et_test (ev_op (ev_var rfl) ev_c rv_I0)) rfl) (fun hb H3 e3 => ?_) (fun hb H3 e3 => ?_)
    · exact s_ret (v := .str (Str.ofString "n")) ev_c fun H4 e4 => k _ .n c1 H4 ((Kp.pre e1 k2).ex (e3.trans e4)) (hp2.ex (e3.trans e4)) (by omega) rfl (Nat.zero_le _)
    · have hr2 : 2 ≤ r := by have h0 : ¬ ((r : Int) < 2) := of_decide_eq_false hb; omega
      obtain ⟨g, rfl⟩ : ∃ g, e = g + 1 := ⟨e - 1, by
        have : e ≠ 0 := fun z => by have := hu2 z; omega
        omega⟩
      simp only [costK] at hc k hck
      have hcg := costK_pos g
      obtain ⟨s0, hs0, hs1⟩ : ∃ s0 : Str, (s0 = Str.ofString "f" ∨ s0 = Str.ofString "p") ∧ ([V.str (Str.ofString "f"), .str (Str.ofString "f"), .str (Str.ofString "p")] : List V)[r - 2]? = some (.str s0) := by
        obtain h | h | h : r = 2 ∨ r = 3 ∨ r = 4 := by omega
        all_goals subst h
        · exact ⟨_, Or.inl rfl, rfl⟩
        · exact ⟨_, Or.inl rfl, rfl⟩
        · exact ⟨_, Or.inr rfl, rfl⟩
      refine (ev_ixL (n := r - 2) (v := .str s0) (el_lst (ea_cons ev_c (ea_cons ev_c (ea_cons ev_c ea_nil))) (by show 3 ≤ 100000; decide)) (ev_is (ev_op (ev_var rfl) ev_c rv_I0) (by congr 1; omega)) hs1) H3 (Ex.refl H3) _ fun H4 e4 => ?_
      have hp4 := hp2.ex (e3.trans e4)
      refine r_call (vs := [.ref p, .int g]) (ea_cons (ev_var rfl) (ea_cons (ev_is (ev_op (ev_var rfl) ev_c rv_I0) (by congr 1; push_cast; omega)) ea_nil)) fun H5 e5 => ⟨p, c1, g, rfl, rfl, hp4.ex e5, by omega, fun x kx c2 H6 k6 hp6 hc6 hx dx => ?_⟩
      refine r_call (vs := [.ref p, .int g]) (ea_cons (ev_var rfl) (ea_cons (ev_is (ev_op (ev_var rfl) ev_c rv_I0) (by congr 1; push_cast; omega)) ea_nil)) fun H7 e7 => ⟨p, c2, g, rfl, rfl, hp6.ex e7, by omega, fun y ky c3 H8 k8 hp8 hc8 hy dy => ?_⟩
      refine ⟨by show 3 ≤ sizeLine; rw [sizeLine_eq]; omega, fun q hq => ?_⟩
      have kk : Kp p H H8 := (((Kp.pre e1 k2).ex (e3.trans e4)).trans (Kp.pre e5 k6)).trans (Kp.pre e7 k8)
      have e9 : Ex H8 (upd H8 q (.tup [.str s0, x, y])) := ex_put hq (Ex.refl H8)
      have hx8 := (hx.keep hp6 (Kp.pre e7 k8)).ex e9
      rcases hs0 with rfl | rfl
      · exact k (.ref q) (.f kx ky) c3 _ (kk.ex e9) (hp8.ex e9) (by omega) ⟨q, x, y, rfl, upd_same, hx8, hy.ex e9⟩ (by simp only [Kd.dep]; omega)
      · exact k (.ref q) (.p kx ky) c3 _ (kk.ex e9) (hp8.ex e9) (by omega) ⟨q, x, y, rfl, upd_same, hx8, hy.ex e9⟩ (by simp only [Kd.dep]; omega)
end
end K5
set_option Elab.async false
set_option linter.all false
set_option maxRecDepth 100000
set_option maxHeartbeats 4000000
namespace K5
open PySem PySem.Spec PyProof.Rows L2 Evl Xl SX Mi
/-- tuples stay -/
def TKeep (G G' : Hp) : Prop := ∀ (t : Addr) (xs : List V), G t = some (.tup xs) → G' t = some (.tup xs)
theorem TKeep.ex {G G' : Hp} (e : Ex G G') : TKeep G G' := fun _ _ h => e _ _ h
theorem TKeep.lst {G : Hp} {D : Addr} {acc xs : List V} (h : G D = some (.lst acc)) : TKeep G (upd G D (.lst xs)) := fun t ys ht => by
  have : t ≠ D := fun z => by rw [z, h] at ht; cases ht
  rw [upd_ne this]; exact ht
theorem ev_compR {K : PySem.W.Frag} {tl te : TE} {g : TG} {tt : TT} {vs : List Nat} {σ : L2.St} {H : Hp} {a : Addr} {ns : List V} {R : Hp → V → Prop} (ht : Ev tl σ H (.ref a)) (ha : H a = some (.lst ns)) (hl : ns.length ≤ 1000)
    (mono : ∀ G G' y, TKeep G G' → R G y → R G' y)
    (step : ∀ v ∈ ns, ∀ G, Ex H G → ∀ (Kt : V → Hp → Prop) (Kf : Hp → Prop), (∀ y G', Ex G G' → R G' y → Kt y G') → (∀ G', Ex G G' → Kf G') → g v (wipe σ vs) G fun σ2 H2 => wipe σ2 vs = wipe σ vs ∧ tt σ2 H2 fun b H3 => if b = true then te σ2 H3 Kt else Kf H3) :
    EvP (tLc (iList K tl) g tt te vs) σ H fun v H1 => ∃ q xs, v = .ref q ∧ H q = none ∧ H1 q = some (.lst xs) ∧ xs.length ≤ ns.length ∧ ∀ y ∈ xs, R H1 y := by
  refine fun Q q => ht H (Ex.refl H) _ fun H1 e1 => ⟨a, rfl, ⟨_, sq_of (e1 _ _ ha)⟩, fun D hD => ?_⟩
  have hDH : H D = none := fresh_back e1 hD
  refine comp_walk (body := fun x H' Nx => g x (wipe σ vs) H' fun σ2 H2 => wipe σ2 vs = wipe σ vs ∧ tt σ2 H2 fun b H3 => if b = true then te σ2 H3 (fun y H4 => ∃ acc, H4 D = some (.lst acc) ∧ acc.length < sizeLine ∧ Nx (upd H4 D (.lst (acc ++ [y])))) else Nx H3)
    (walk_list (K := K) (a := a) (xs := ns)) (fun i G => Ex H G ∧ ∃ acc, G D = some (.lst acc) ∧ acc.length ≤ i ∧ ∀ y ∈ acc, R G y) ⟨e1.trans (ex_put hD (Ex.refl H1)), [], upd_same, Nat.le_refl _, fun y hy => by cases hy⟩ (fun i G _ hp => sq_of (hp.1 _ _ ha)) (fun i G x G' hi hp hy => ?_) (fun G hp => ?_)
  · obtain ⟨rfl, hx⟩ := hy
    obtain ⟨eG, acc, hk, hkl, hR⟩ := hp
    refine step x (List.mem_of_getElem? hx) G' eG _ _ (fun y G2 e2 hy => ⟨acc, e2 _ _ hk, by rw [sizeLine_eq]; omega, ?_⟩) (fun G2 e2 => ?_)
    · refine ⟨ex_put hDH (eG.trans e2), acc ++ [y], upd_same, by simp; omega, fun z hz => ?_⟩
      have tk : TKeep G2 (upd G2 D (.lst (acc ++ [y]))) := TKeep.lst (e2 _ _ hk)
      rcases List.mem_append.1 hz with hz | hz
      · exact mono _ _ _ tk (mono _ _ _ (TKeep.ex e2) (hR z hz))
      · rw [List.mem_singleton.1 hz]; exact mono _ _ _ tk hy
    · exact ⟨eG.trans e2, acc, e2 _ _ hk, by omega, fun z hz => mono _ _ _ (TKeep.ex e2) (hR z hz)⟩
  · obtain ⟨eG, acc, hk, hkl, hR⟩ := hp
    exact q _ _ eG ⟨D, acc, rfl, hDH, hk, hkl, hR⟩
/-- a name with its kind -/
def NmAt (H : Hp) (v : V) (w : Wd) : Prop := ∃ (t : Addr) (x : V) (k : Kd), v = .ref t ∧ H t = some (.tup [.str (S w), x]) ∧ KdAt H x k ∧ k.dep ≤ 20
theorem NmAt.tk {G G' : Hp} {v : V} {w : Wd} (e : TKeep G G') (h : NmAt G v w) : NmAt G' v w := by
  obtain ⟨t, x, k, h1, h2, h3, h4⟩ := h; exact ⟨t, x, k, h1, e _ _ h2, h3.mono e, h4⟩
/-- names with kinds, all of which are such as q tells -/
def NmsAt (q : Wd → Prop) (H : Hp) (a : Addr) (n : Nat) : Prop := ∃ ns, H a = some (.lst ns) ∧ ns.length ≤ n ∧ ∀ v ∈ ns, ∃ z, q z ∧ NmAt H v z
theorem NmsAt.ex {q : Wd → Prop} {H H' : Hp} {a : Addr} {n : Nat} (h : NmsAt q H a n) (e : Ex H H') : NmsAt q H' a n := by
  obtain ⟨ns, h1, h2, h3⟩ := h
  exact ⟨ns, e _ _ h1, h2, fun v hv => by obtain ⟨z, hz, hn⟩ := h3 v hv; exact ⟨z, hz, hn.tk (TKeep.ex e)⟩⟩
theorem NmsAt.keep {q : Wd → Prop} {p : Addr} {c : Nat} {H H' : Hp} {a : Addr} {n : Nat} (h : NmsAt q H a n) (hp : PotAt p c H) (e : Kp p H H') (ne : a ≠ p) : NmsAt q H' a n := by
  obtain ⟨ns, h1, h2, h3⟩ := h
  exact ⟨ns, e _ _ ne h1, h2, fun v hv => by obtain ⟨z, hz, hn⟩ := h3 v hv; exact ⟨z, hz, hn.tk (pot_tup hp e)⟩⟩
theorem NmsAt.sub {q q' : Wd → Prop} {H : Hp} {a : Addr} {n : Nat} (h : NmsAt q H a n) (s : ∀ z, q z → q' z) : NmsAt q' H a n := by
  obtain ⟨ns, h1, h2, h3⟩ := h
  exact ⟨ns, h1, h2, fun v hv => by obtain ⟨z, hz, hn⟩ := h3 v hv; exact ⟨z, s z hz, hn⟩⟩
def FRS : List Wd := [[120], [121], [122], [117], [107, 50]]
def spFresh : Sp := fun vs H Q _ => ∃ (p : Addr) (c : Nat), vs = [.ref p] ∧ PotAt p c H ∧ c ≤ 2000000 ∧
  ∀ (x : Wd) (c' : Nat) (H' : Hp), x ∈ FRS → Kp p H H' → PotAt p c' H' → c' ≤ c + 1 → Q (.str (S x)) H'
def spWith : Sp := fun vs H Q _ => ∃ (a : Addr) (x : Wd) (v : V) (k : Kd) (q : Wd → Prop) (n : Nat), vs = [.ref a, .str (S x), v] ∧ NmsAt q H a n ∧ n ≤ 100 ∧ KdAt H v k ∧ k.dep ≤ 20 ∧
  ∀ (b : Addr) (H' : Hp), Ex H H' → H b = none → NmsAt (fun z => z = x ∨ q z) H' b (n + 1) → Q (.ref b) H'
section
variable {P : Program} {w : World} {K : PySem.W.Frag} {mg : Str → Option Value} {base : Heap} {f : Addr} {fd : FuncData}
theorem pot_ne {p t : Addr} {c : Nat} {H : Hp} (hp : PotAt p c H) (ht : H t = none) : t ≠ p := fun z => by
  obtain ⟨o, m, h, _⟩ := hp; rw [z, h] at ht; cases ht
theorem r_callVL {sp : Sp} {dvs : List V} {E : XK} {ta tb : TE} {σ : L2.St} {H : Hp} {Q : VK} {v : V} {xs : List V} (ha : Ev ta σ H v) (hb : EvL tb σ H xs) (k : ∀ t H1, H t = none → Ex H H1 → H1 t = some (.lst xs) → sp ([v, .ref t] ++ dvs) H1 Q E) : tCall sp dvs E (tCons ta (tCons tb tNil)) σ H Q :=
  ha H (Ex.refl H) _ fun H1 e1 => hb H1 e1 _ fun t H2 ht e2 hx => k t H2 (fresh_back e1 ht) (e1.trans e2) hx
theorem scFr : FnScope ["pot"] ["pot"] (C8.fnScope (top 46)) := C8.fnScope_by (by decide +kernel)
theorem ok_fresh (F : C8.Def K mg "_law_fresh" (top 46) f fd) (b : Binds K fd ["pot"] []) (T : Txt3 K w mg) (cO : C8.Cal P w K mg base 2 "_law_of" (spOfG K) []) : C8.Cal P w K mg base 3 "_law_fresh" spFresh [] := by
  refine C8.cal0 F b .nil scFr (fun vs H Q E h => by obtain ⟨p, c, rfl, _⟩ := h; rfl) (fun cdv A outer s H vs Q E hr h => ?_)
  obtain ⟨p, c, rfl, hp, hc, k⟩ := h
  refine ⟨_, pss_one (ps_ret (C8.pe_c cO hr (by decide) (by rfl) (pa_cons (pv 0) (pa_cons (pe_lst (pa_cons pe_str (pa_cons pe_str (pa_cons pe_str (pa_cons pe_str (pa_cons pe_str pa_nil)))))) pa_nil)))), ?_⟩
  refine r_callVL (ev_var rfl) (el_lst (ea_cons ev_c (ea_cons ev_c (ea_cons ev_c (ea_cons ev_c (ea_cons ev_c ea_nil))))) (by show 5 ≤ 100000; decide)) fun t H2 ht e2 hx => ?_
  refine ⟨p, t, c, _, rfl, hp.ex e2, hc, hx, by show 0 < 5; decide, by show 5 ≤ 1000; decide, pot_ne hp ht, fun v c' H' hv K' P' hc' => ?_⟩
  have : ∃ x ∈ FRS, v = .str (S x) := by
    simp only [List.mem_cons, List.not_mem_nil, or_false] at hv
    rcases hv with rfl | rfl | rfl | rfl | rfl
    · exact ⟨[120], by decide, by decide⟩
    · exact ⟨[121], by decide, by decide⟩
    · exact ⟨[122], by decide, by decide⟩
    · exact ⟨[117], by decide, by decide⟩
    · exact ⟨[107, 50], by decide, by decide⟩
  obtain ⟨x, hx1, rfl⟩ := this
  exact k x c' H' hx1 (Kp.pre e2 K') P' hc'
abbrev nWi : List Str := ["names", "name", "kind", "its", "other"]
theorem scWi : FnScope nWi ["names", "name", "kind"] (C8.fnScope (top 47)) := C8.fnScope_by (by decide +kernel)
theorem ok_with (F : C8.Def K mg "_law_with" (top 47) f fd) (b : Binds K fd ["names", "name", "kind"] []) (T : Txt3 K w mg) : C8.Cal P w K mg base 1 "_law_with" spWith [] := by
  refine C8.cal0 F b .nil scWi (fun vs H Q E h => by obtain ⟨a, x, v, k, q, n, rfl, _⟩ := h; rfl) (fun cdv A outer s H vs Q E hr h => ?_)
  obtain ⟨a, x, v, kd, q, n, rfl, ⟨ns, ha, hn, hns⟩, hn1, hv, hkd, k⟩ := h
  refine ⟨_, pss_one (ps_ret (pe_op op_cat (pe_lst (pa_cons (pe_tup (pa_cons (pv 1) (pa_cons (pv 2) pa_nil))) pa_nil))
    (pe_lc (own := [("its", 3), ("other", 4)]) (g := gTup K 2 (gCons (gName 3) (gCons (gName 4) gNil))) (tt := tTest (tOp rNe (tVar 3) (tVar 1))) (te := tTup (tCons (tVar 3) (tCons (tVar 4) tNil))) rfl scWi.nd (pi_list (pv 0)) (blkOk_by (N := nWi) (sc := C8.fnScope (top 47)) (by decide +kernel))
      (fun _ _ _ _ _ => pg_tup (by rfl) (pgs_cons (pg_name (i := 3) scWi.nd rfl (Or.inl rfl)) (pgs_cons (pg_name (i := 4) scWi.nd rfl (Or.inl rfl)) pgs_nil)))
      (fun _ _ _ _ _ => pts_one (pt_cmpR op_ne (pv 3) (pv 1) (nomark _)))
      (fun _ _ _ _ _ => pe_tup (pa_cons (pv 3) (pa_cons (pv 4) pa_nil)))))), ?_⟩
  have sz : ∀ {n : Nat}, n ≤ 1000 → n ≤ sizeLine := fun h => by rw [sizeLine_eq]; omega
  refine ⟨_, rfl, _, rfl, sz (n := 2) (by omega), fun t ht => ⟨sz (n := 1) (by omega), fun l hl => ?_⟩⟩
  have hat : a ≠ t := fun z => by rw [z, ht] at ha; cases ha
  have e1 : Ex H (upd H t (.tup [.str (S x), v])) := ex_put ht (Ex.refl H)
  have e2 : Ex H (upd (upd H t (.tup [.str (S x), v])) l (.lst [.ref t])) := e1.trans (ex_put hl (Ex.refl _))
  have hl2 : (upd (upd H t (.tup [.str (S x), v])) l (.lst [.ref t])) l = some (.lst [.ref t]) := upd_same
  have ht2 : (upd (upd H t (.tup [.str (S x), v])) l (.lst [.ref t])) t = some (.tup [.str (S x), v]) := ex_put hl (Ex.refl _) _ _ upd_same
  generalize upd (upd H t (.tup [.str (S x), v])) l (.lst [.ref t]) = G at *
  refine ev_compR (R := fun H y => ∃ z, (z = x ∨ q z) ∧ NmAt H y z) (ns := ns) (ev_var rfl) (e2 _ _ ha) (by omega) (fun G G' y e ⟨z, h1, h2⟩ => ⟨z, h1, h2.tk e⟩) (fun u hu G1 eG Kt Kf hKt hKf => ?_) _ fun r H3 e3 hr => ?_
  · obtain ⟨z, hz, tz, xz, kz, rfl, h1, h2, h3⟩ := hns u hu
    refine g_two ((e2.trans eG) _ _ h1) ⟨rfl, ?_⟩
    refine (et_test (ev_op (ev_var rfl) (ev_var rfl) (rv_ne rfl)) : EvT (tTest (tOp rNe (tVar 3) (tVar 1))) _ G1 _) G1 (Ex.refl G1) _ fun H4 e4 => ?_
    split
    · refine ⟨_, rfl, _, rfl, sz (n := 2) (by omega), fun t2 ht2 => ?_⟩
      have e5 : Ex H4 (upd H4 t2 (.tup [.str (S z), xz])) := ex_put ht2 (Ex.refl H4)
      exact hKt _ _ (e4.trans e5) ⟨z, Or.inr hz, t2, xz, kz, rfl, upd_same, h2.ex (((e2.trans eG).trans e4).trans e5), h3⟩
    · exact hKf _ e4
  · obtain ⟨r0, xs, rfl, hr0, hr1, hr2, hr3⟩ := hr
    refine ⟨l, r0, [.ref t], xs, rfl, rfl, e3 _ _ hl2, hr1, sz (by simp; omega), fun b hb => ?_⟩
    have e4 : Ex H3 (upd H3 b (.lst ([.ref t] ++ xs))) := ex_put hb (Ex.refl H3)
    refine k b _ ((e2.trans e3).trans e4) (fresh_back (e2.trans e3) hb) ⟨_, upd_same, by simp; omega, fun y hy => ?_⟩
    rcases List.mem_append.1 hy with hy | hy
    · rw [List.mem_singleton.1 hy]
      exact ⟨x, Or.inl rfl, t, v, kd, rfl, (e3.trans e4) _ _ ht2, hv.ex ((e2.trans e3).trans e4), hkd⟩
    · obtain ⟨z, h1, h2⟩ := hr3 y hy
      exact ⟨z, h1, h2.tk (TKeep.ex e4)⟩
end
end K5
set_option Elab.async false
set_option linter.all false
set_option maxRecDepth 100000
set_option maxHeartbeats 4000000
namespace K5
open PySem PySem.Spec PyProof.Rows L2 Evl Xl SX Mi
def kdD : Kd → PyData
  | .n => .str (Str.ofString "n")
  | .f a b => .tuple [.str (Str.ofString "f"), kdD a, kdD b]
  | .p a b => .tuple [.str (Str.ofString "p"), kdD a, kdD b]
theorem KdAt.dp {K : PySem.W.Frag} {H : Hp} : ∀ {k : Kd} {v : V}, KdAt H v k → Dp K H v (kdD k) := by
  intro k
  induction k with
  | n => intro v h; rw [show v = _ from h]; exact .str _
  | f a b iha ihb => rintro v ⟨t, x, y, rfl, ht, hx, hy⟩; exact .tup (st_of ht) (.cons (.str _) (.cons (iha hx) (.cons (ihb hy) .nil)))
  | p a b iha ihb => rintro v ⟨t, x, y, rfl, ht, hx, hy⟩; exact .tup (st_of ht) (.cons (.str _) (.cons (iha hx) (.cons (ihb hy) .nil)))
theorem kdD_lay : ∀ {k : Kd}, (kdD k).canLay0 = true := by
  intro k
  induction k with
  | n => rw [kdD, PyData.canLay0.eq_4]; decide +kernel
  | f a b iha ihb => rw [kdD, PyData.canLay0.eq_6]; simp only [PyData.canLayAll0, iha, ihb, PyData.canLay0.eq_4]; decide +kernel
  | p a b iha ihb => rw [kdD, PyData.canLay0.eq_6]; simp only [PyData.canLayAll0, iha, ihb, PyData.canLay0.eq_4]; decide +kernel
theorem kdD_depth : ∀ {k : Kd}, (kdD k).depth ≤ k.dep := by
  intro k
  induction k with
  | n => rw [kdD, PyData.depth.eq_7]; exact Nat.le_refl 0
  | f a b iha ihb => rw [kdD, PyData.depth.eq_2]; simp only [PyData.depthAll, PyData.depth.eq_7, Kd.dep]; omega
  | p a b iha ihb => rw [kdD, PyData.depth.eq_2]; simp only [PyData.depthAll, PyData.depth.eq_7, Kd.dep]; omega
theorem kdD_shaped {k : Kd} (h : k.dep ≤ 60) : SeqAt.shaped (kdD k) = true := by
  unfold SeqAt.shaped
  rw [kdD_lay, Bool.true_and]
  have := @kdD_depth k
  exact decide_eq_true (by omega)
theorem strOk_of {x : Wd} (h : ∀ c ∈ x, c < 1114112) : PyData.strOk (S x) = true := by
  unfold PyData.strOk
  simp only [List.all_toArray, List.all_eq_true, decide_eq_true_eq]
  exact h
theorem free_low {x : Wd} (h : okFree x = true) : ∀ c ∈ x, c < 1114112 := by
  simp only [okFree, nameOk, Bool.and_eq_true] at h
  obtain ⟨⟨⟨_, h⟩, _⟩, _⟩ := h
  intro c hc
  have h1 := List.all_eq_true.1 h c hc
  have a1 : ∀ c ∈ Mi.LET, c < 1114112 := by decide
  have a2 : ∀ c ∈ Mi.FIG, c < 1114112 := by decide
  rw [Bool.or_eq_true] at h1
  rcases h1 with z | z
  · exact a1 c (of_decide_eq_true z)
  · exact a2 c (of_decide_eq_true z)
/-- words of which an expression may be drawn -/
def Low (x : Wd) : Prop := ∀ c ∈ x, c < 1114112
theorem NmOk.low {B P : List Wd} {x : Wd} (h : NmOk B P x) : Low x := by
  rcases h with ⟨h, _⟩ | ⟨y, rfl, h, _⟩
  · exact free_low h
  · intro c hc
    rcases List.mem_cons.1 hc with rfl | hc
    · decide
    · exact free_low h c hc
theorem PtOk.low {P : List Wd} {x : Wd} (h : PtOk P x) : Low x := free_low h.1
abbrev wV (ws : List Wd) : List V := ws.map fun x => V.str (S x)
theorem words_ne {p q : Addr} {c : Nat} {H : Hp} {ws : List Wd} (hp : PotAt p c H) (hq : H q = some (.lst (wV ws))) : q ≠ p := fun z => by
  obtain ⟨o, m, h, _⟩ := hp
  rw [z, h] at hq
  cases ws with
  | nil => cases hq
  | cons a r => injection hq with hq; injection hq with hq; injection hq with h1 h2; cases h1
/-- of a list of texts != [] -/
theorem dp_words {K : PySem.W.Frag} {H : Hp} : ∀ {ws : List Wd}, DpAll K H (wV ws) (ws.map fun x => PyData.str (S x)) := by
  intro ws
  induction ws with
  | nil => exact .nil
  | cons a r ih => exact .cons (.str _) ih
theorem lay_words : ∀ {ws : List Wd}, (∀ x ∈ ws, Low x) → PyData.canLayAll0 (ws.map fun x => PyData.str (S x)) = true ∧ PyData.depthAll (ws.map fun x => PyData.str (S x)) = 0 := by
  intro ws
  induction ws with
  | nil => intro _; exact ⟨rfl, rfl⟩
  | cons a r ih =>
    intro h
    obtain ⟨h1, h2⟩ := ih fun x hx => h x (List.mem_cons_of_mem _ hx)
    simp only [List.map_cons, PyData.canLayAll0, PyData.depthAll, PyData.canLay0.eq_4, PyData.depth.eq_7, h1, h2, strOk_of (h a (List.mem_cons_self ..))]
    exact ⟨rfl, rfl⟩
theorem shaped_words {ws : List Wd} (h : ∀ x ∈ ws, Low x) : SeqAt.shaped (.list (ws.map fun x => PyData.str (S x))) = true := by
  obtain ⟨h1, h2⟩ := lay_words h
  unfold SeqAt.shaped
  rw [PyData.canLay0.eq_5, h1, PyData.depth.eq_1, h2]
  rfl
theorem r_neNil {K : PySem.W.Frag} {ta : TE} {σ : L2.St} {H : Hp} {a : Addr} {ws : List Wd} {Q : Bool → Hp → Prop} (h : Ev ta σ H (.ref a)) (ha : H a = some (.lst (wV ws))) (low : ∀ x ∈ ws, Low x) (k : ∀ b H1, Ex H H1 → (b = true → ws ≠ []) → Q b H1) : tTest (tOp (rNeD K) ta (tLst tNil)) σ H Q :=
  h H (Ex.refl H) _ fun H1 e1 => ⟨by show 0 ≤ sizeLine; rw [sizeLine_eq]; omega, fun p hp => by
    have e2 : Ex H1 (upd H1 p (.lst [])) := ex_put hp (Ex.refl H1)
    refine ⟨_, _, .lst (sq_of (e2 _ _ (e1 _ _ ha))) dp_words, .lst (sq_of upd_same) .nil, shaped_words low, by rfl, _, rfl, k _ _ (e1.trans e2) fun hb he => ?_⟩
    subst he
    revert hb
    decide⟩
end K5
set_option Elab.async false
set_option linter.all false
set_option maxRecDepth 100000
set_option maxHeartbeats 4000000
namespace K5
open PySem PySem.Spec PyProof.Rows L2 Evl Xl SX Mi
def costL : Nat → Nat
  | 0 => 0
  | d + 1 => 3 + 2 * costL d
def lenL : Nat → Nat
  | 0 => 0
  | d + 1 => 2 + 2 * lenL d
abbrev PAIR : Wd := [112, 97, 105, 114]
theorem ll12 {d : Nat} (h : d ≤ 12) : lenL d ≤ 10000 := by
  have : ∀ d, d ≤ 12 → lenL d ≤ 10000 := by decide
  exact this d h
/-- a leaf of a kind is drawn -/
def spLeaf (d : Nat) : Sp := fun vs H Q _ => ∃ (p a a2 : Addr) (v : V) (k : Kd) (c n m : Nat) (B Ps : List Wd), vs = [.ref p, v, .ref a, .ref a2] ∧ k.dep < d ∧ d ≤ 12 ∧ PotAt p c H ∧ c + costL d ≤ 2000000 ∧ KdAt H v k ∧
  NmsAt (NmOk B Ps) H a n ∧ NmsAt (PtOk Ps) H a2 m ∧ n + d ≤ 60 ∧ m ≤ 60 ∧ a ≠ p ∧ a2 ≠ p ∧
  ∀ (q : Addr) (ws : List Wd) (c' : Nat) (H' : Hp), Kp p H H' → PotAt p c' H' → c' ≤ c + costL d → H' q = some (.lst (wV ws)) → Out B Ps (2 + k.dep) ws → ws.length ≤ lenL d → Q (.ref q) H'
theorem texts_of {R : Wd → Prop} : ∀ {xs : List V}, (∀ y ∈ xs, ∃ z, R z ∧ y = .str (S z)) → ∃ ws, xs = wV ws ∧ ∀ z ∈ ws, R z := by
  intro xs
  induction xs with
  | nil => intro _; exact ⟨[], rfl, fun z hz => by cases hz⟩
  | cons y r ih =>
    intro h
    obtain ⟨ws, rfl, hw⟩ := ih fun x hx => h x (List.mem_cons_of_mem _ hx)
    obtain ⟨z, hz, rfl⟩ := h y (List.mem_cons_self ..)
    exact ⟨z :: ws, rfl, fun x hx => by rcases List.mem_cons.1 hx with rfl | hx; exact hz; exact hw x hx⟩
/-- the names of this kind -/
theorem ev_named {K : PySem.W.Frag} {tl : TE} {σ : L2.St} {H : Hp} {a : Addr} {q : Wd → Prop} {n i j ik : Nat} {vs : List Nat} {v : V} {k : Kd} (ht : Ev tl σ H (.ref a)) (ha : NmsAt q H a n) (hn : n ≤ 1000) (hv : KdAt H v k) (hk : k.dep ≤ 20)
    (s1 : ∀ x y, ((((wipe σ vs).set i (some x)).set j (some y))[j]?) = some (some y)) (s2 : ∀ x y, ((((wipe σ vs).set i (some x)).set j (some y))[ik]?) = some (some v)) (s3 : ∀ x y, ((((wipe σ vs).set i (some x)).set j (some y))[i]?) = some (some x))
    (sw : ∀ x y, wipe (((wipe σ vs).set i (some x)).set j (some y)) vs = wipe σ vs) :
    EvP (tLc (iList K tl) (gTup K 2 (gCons (gName i) (gCons (gName j) gNil))) (tTest (tOp (rEqD K) (tVar j) (tVar ik))) (tVar i) vs) σ H fun v H1 => ∃ p ws, v = .ref p ∧ H p = none ∧ H1 p = some (.lst (wV ws)) ∧ ws.length ≤ n ∧ ∀ z ∈ ws, q z := by
  obtain ⟨ns, h1, h2, h3⟩ := ha
  refine fun Q qq => ev_compR (R := fun _ y => ∃ z, q z ∧ y = .str (S z)) ht h1 (by omega) (fun _ _ _ _ h => h) (fun u hu G eG Kt Kf hKt hKf => ?_) Q fun r H1 e1 hr => ?_
  · obtain ⟨z, hz, t, x, kx, rfl, g1, g2, g3⟩ := h3 u hu
    refine g_two (eG _ _ g1) ⟨sw _ _, ?_⟩
    refine ⟨_, s1 _ _, _, s2 _ _, _, _, (g2.ex eG).dp, (hv.ex eG).dp, kdD_shaped (by omega), kdD_shaped (by omega), _, rfl, ?_⟩
    dsimp only
    split
    · exact ⟨_, s3 _ _, hKt _ _ (Ex.refl G) ⟨z, hz, rfl⟩⟩
    · exact hKf _ (Ex.refl G)
  · obtain ⟨p, xs, rfl, g1, g2, g3, g4⟩ := hr
    obtain ⟨ws, rfl, hw⟩ := texts_of g4
    exact qq _ _ e1 ⟨p, ws, rfl, g1, g2, by simp at g3; omega, hw⟩
theorem q_set {te : TE} {σ : L2.St} {H : Hp} {D : Ends} {tz : TS} {i : Nat} (h : te σ H fun v H1 => tz D (σ.set i (some v)) H1) : tSeq (tAsg te (gName i)) tz D σ H := h
theorem r_op {r : R2} {ta tb : TE} {σ : L2.St} {H : Hp} {Q : VK} (h : ta σ H fun x H1 => tb σ H1 fun y H2 => r x y H2 Q) : tOp r ta tb σ H Q := h
theorem q_ifR {t : TT} {tu tz : TS} {D : Ends} {σ : L2.St} {H : Hp} (h : t σ H fun b H1 => if b = true then tu { D with nx := tz D } σ H1 else tz D σ H1) : tSeq (tIfS t tu tNext) tz D σ H := h
theorem r_ret {te : TE} {D : Ends} {σ : L2.St} {H : Hp} (h : te σ H D.rt) : tRet te D σ H := h
theorem r_and {t u : TT} {σ : L2.St} {H : Hp} {Q : Bool → Hp → Prop} (h : t σ H fun c H1 => if c = true then u σ H1 Q else Q false H1) : tAnd t u σ H Q := h
theorem r_lst1 {te : TE} {σ : L2.St} {H : Hp} {Q : VK} (h : te σ H fun x H1 => ∀ q, H1 q = none → Q (.ref q) (upd H1 q (.lst [x]))) : tLst (tCons te tNil) σ H Q := by
  have e : tLst (tCons te tNil) σ H Q = te σ H fun x H1 => ([x].length ≤ sizeLine ∧ ∀ q, H1 q = none → Q (.ref q) (upd H1 q (.lst [x]))) := rfl
  rw [e]
  have : (fun (x : V) (H1 : Hp) => ([x].length ≤ sizeLine ∧ ∀ q, H1 q = none → Q (.ref q) (upd H1 q (.lst [x])))) = fun x H1 => ∀ q, H1 q = none → Q (.ref q) (upd H1 q (.lst [x])) := by
    funext x H1
    exact propext ⟨fun h => h.2, fun h => ⟨by show 1 ≤ sizeLine; rw [sizeLine_eq]; omega, h⟩⟩
  rw [this]; exact h
theorem r_cons {ta : TE} {tr : TA} {σ : L2.St} {H : Hp} {Q : List V → Hp → Prop} (h : ta σ H fun x H1 => tr σ H1 fun xs H2 => Q (x :: xs) H2) : tCons ta tr σ H Q := h
theorem ev_ixT {K : PySem.W.Frag} {σ : L2.St} {H : Hp} {i n : Nat} {t : Addr} {xs : List V} {v : V} (h : σ[i]? = some (some (.ref t))) (ht : H t = some (.tup xs)) (hx : xs[n]? = some v) : Ev (tOp (rIxT K) (tVar i) (tC (.int n))) σ H v :=
  fun H1 e Q q => ⟨_, h, t, _, n, _, rfl, rfl, st_of (e _ _ ht), atI_nat hx, q H1 (Ex.refl H1)⟩
theorem frs_bns {z : Wd} (h : z ∈ FRS) : z ∈ BNS := by
  have : ∀ z ∈ FRS, z ∈ BNS := by decide
  exact this z h
theorem nm_more {B P : List Wd} {z : Wd} (hz : z ∈ BNS) : ∀ x, (x = z ∨ NmOk B P x) → NmOk (z :: B) P x := fun x h => by
  rcases h with rfl | ⟨h1, h2⟩ | ⟨y, rfl, h1, h2⟩
  · exact Or.inl ⟨(bns_free hz).1, List.mem_cons_self ..⟩
  · exact Or.inl ⟨h1, List.mem_cons_of_mem _ h2⟩
  · exact Or.inr ⟨y, rfl, h1, h2⟩
theorem r_cb {r : List V → Hp → VK → Prop} {te : TE} {σ : L2.St} {H : Hp} {Q : VK} (h : te σ H fun x H1 => r [x] H1 Q) : tCB r (tCons te tNil) σ H Q := h
theorem ev_neg {σ : L2.St} {H : Hp} {i : Int} : Ev (tUn (rU fun i => V.int (-i)) (tC (.int i))) σ H (.int (-i)) := fun H1 e Q q => ⟨i, rfl, q H1 (Ex.refl H1)⟩
theorem r_some {K : PySem.W.Frag} {σ : L2.St} {H : Hp} {Q : Bool → Hp → Prop} {p s0 : Addr} {ws : List Wd} {c : Nat} (h0 : σ[0]? = some (some (.ref p))) (h4 : σ[4]? = some (some (.ref s0))) (hs : H s0 = some (.lst (wV ws))) (low : ∀ z ∈ ws, Low z) (hp : PotAt p c H) (hc : c ≤ 2000000)
    (k : ∀ b G c1, Kp p H G → PotAt p c1 G → c1 ≤ c + 1 → (b = true → ws ≠ []) → Q b G) :
    tAnd (tTest (tOp (rNeD K) (tVar 4) (tLst tNil))) (tTest (tOp (rI0 fun i j => V.bl (decide (j < i))) (tCall spTk [] C8.E0 (tCons (tVar 0) (tCons (tC (V.int 4)) tNil))) (tC (V.int 0)))) σ H Q := by
  refine r_and (r_neNil (ev_var h4) hs low fun b1 H4 e4 hb1 => ?_)
  cases b1 with
  | false => rw [if_neg (by decide)]; exact k _ _ c (Keep.of e4) (hp.ex e4) (by omega) fun z => by cases z
  | true =>
    rw [if_pos rfl]
    refine r_op (r_call (vs := [.ref p, .int (4 : Nat)]) (ea_cons (ev_var h0) (ea_cons ev_c ea_nil)) fun H5 e5 => ⟨p, c, 4, rfl, by decide, by decide, (hp.ex e4).ex e5, hc, fun r c1 H6 hr k6 hp6 hc6 => ?_⟩)
    exact ⟨_, _, rfl, rfl, _, rfl, k _ _ c1 (Kp.pre (e4.trans e5) k6) hp6 hc6 fun _ => hb1 rfl⟩
section
variable {P : Program} {w : World} {K : PySem.W.Frag} {mg : Str → Option Value} {base : Heap} {f : Addr} {fd : FuncData}
abbrev nLf : List Str := ["pot", "kind", "names", "parts", "some", "fresh", "name", "its"]
theorem scLf : FnScope nLf ["pot", "kind", "names", "parts"] (C8.fnScope (top 45)) := C8.fnScope_by (by decide +kernel)
theorem ok_leaf (F : C8.Def K mg "_law_leaf" (top 45) f fd) (b : Binds K fd ["pot", "kind", "names", "parts"] []) (T : Txt3 K w mg) (cT : C8.Cal P w K mg base 1 "_law_take" spTk []) (cO : C8.Cal P w K mg base 2 "_law_of" (spOfG K) [])
    (cF : C8.Cal P w K mg base 3 "_law_fresh" spFresh []) (cW : C8.Cal P w K mg base 1 "_law_with" spWith []) : ∀ d, C8.Cal P w K mg base (4 + d) "_law_leaf" (spLeaf d) [] := by
  intro d
  induction d with
  | zero => exact C8.cal0 F b .nil scLf (k := 3) (fun vs H Q E h => by obtain ⟨p, a, a2, v, k, c, n, m, B, Ps, _, hd, _⟩ := h; omega) (fun cdv A outer s H vs Q E hr h => by obtain ⟨p, a, a2, v, k, c, n, m, B, Ps, _, hd, _⟩ := h; omega)
  | succ d ih =>
    refine C8.cal0 F b .nil scLf (k := 4 + d) (fun vs H Q E h => by obtain ⟨p, a, a2, v, k, c, n, m, B, Ps, rfl, _⟩ := h; rfl) (fun cdv A outer s H vs Q E hr h => ?_)
    obtain ⟨p, a, a2, v, k, c, n, m, B, Ps, rfl, hkd, hd12, hp, hc, hv, ha, ha2, hn, hm, hap, hap2, kk⟩ := h
    refine ⟨_, pss_cons (ps_set (i := 4) scLf.nd rfl (Or.inl rfl) (pe_op op_cat
        (pe_lc (own := [("name", 6), ("its", 7)]) (g := gTup K 2 (gCons (gName 6) (gCons (gName 7) gNil))) (tt := tTest (tOp (rEqD K) (tVar 7) (tVar 1))) (te := tVar 6) rfl scLf.nd (pi_list (pv 2)) (blkOk_by (N := nLf) (sc := C8.fnScope (top 45)) (by decide +kernel))
          (fun _ _ _ _ _ => pg_tup (by rfl) (pgs_cons (pg_name (i := 6) scLf.nd rfl (Or.inl rfl)) (pgs_cons (pg_name (i := 7) scLf.nd rfl (Or.inl rfl)) pgs_nil)))
          (fun _ _ _ _ _ => pts_one (pt_cmpR (op_eqD (by have := hr.units; show (A.deeper (envOfC "_law_leaf" (C8.fnScope (top 45)) s.heap.objs.size f cdv)).units + 64 < cLine; omega)) (pv 7) (pv 1) (nomark _)))
          (fun _ _ _ _ _ => pv 6))
        (pe_lc (own := [("name", 6), ("its", 7)]) (g := gTup K 2 (gCons (gName 6) (gCons (gName 7) gNil))) (tt := tTest (tOp (rEqD K) (tVar 7) (tVar 1))) (te := tVar 6) rfl scLf.nd (pi_list (pv 3)) (blkOk_by (N := nLf) (sc := C8.fnScope (top 45)) (by decide +kernel))
          (fun _ _ _ _ _ => pg_tup (by rfl) (pgs_cons (pg_name (i := 6) scLf.nd rfl (Or.inl rfl)) (pgs_cons (pg_name (i := 7) scLf.nd rfl (Or.inl rfl)) pgs_nil)))
          (fun _ _ _ _ _ => pts_one (pt_cmpR (op_eqD (by have := hr.units; show (A.deeper (envOfC "_law_leaf" (C8.fnScope (top 45)) s.heap.objs.size f cdv)).units + 64 < cLine; omega)) (pv 7) (pv 1) (nomark _)))
          (fun _ _ _ _ _ => pv 6))))
      (pss_cons (ps_if (pw_and (pt_cmpR (op_neD hr.units) (pv 4) (pe_lst pa_nil) (nomark _)) (pw_and1 (pt_cmpR op_gt (C8.pe_c cT hr (by omega) (by rfl) (pa_cons (pv 0) (pa_cons pe_int pa_nil))) pe_int (nomark _)))).pt
        (pss_one (ps_ret (pe_lst (pa_cons (C8.pe_c cO hr (by omega) (by rfl) (pa_cons (pv 0) (pa_cons (pv 4) pa_nil))) pa_nil)))) pss_nil)
      (pss_cons (ps_if (pt_cmpR (op_eqD hr.units) (pv 1) pe_str (nomark _))
        (pss_one (ps_ret (pe_lst (pa_cons (pe_callTy call_str_int (by rfl) T.str_ (by decide +kernel) (pa_cons (C8.pe_c cO hr (by omega) (by rfl) (pa_cons (pv 0) (pa_cons (pe_lst (pa_cons pe_int (pa_cons pe_int (pa_cons pe_int (pa_cons pe_int (pa_cons pe_int (pa_cons (pe_un un_neg pe_int) (pa_cons (pe_un un_neg pe_int) (pa_cons pe_int pa_nil))))))))) pa_nil))) pa_nil)) pa_nil)))) pss_nil)
      (pss_cons (ps_if (pt_cmpR op_eq (pe_ix ix_tup (pv 1) pe_int (fun _ _ => rfl)) pe_str (nomark _))
        (pss_one (ps_ret (pe_op op_cat (pe_op op_cat (pe_lst (pa_cons pe_str pa_nil)) (C8.pe_c ih hr (by omega) (by rfl) (pa_cons (pv 0) (pa_cons (pe_ix ix_tup (pv 1) pe_int (fun _ _ => rfl)) (pa_cons (pv 2) (pa_cons (pv 3) pa_nil))))))
          (C8.pe_c ih hr (by omega) (by rfl) (pa_cons (pv 0) (pa_cons (pe_ix ix_tup (pv 1) pe_int (fun _ _ => rfl)) (pa_cons (pv 2) (pa_cons (pv 3) pa_nil)))))))) pss_nil)
      (pss_cons (ps_set (i := 5) scLf.nd rfl (Or.inl rfl) (C8.pe_c cF hr (by omega) (by rfl) (pa_cons (pv 0) pa_nil)))
      (pss_one (ps_ret (pe_op op_cat (pe_lst (pa_cons pe_str (pa_cons (pv 5) pa_nil))) (C8.pe_c ih hr (by omega) (by rfl) (pa_cons (pv 0) (pa_cons (pe_ix ix_tup (pv 1) pe_int (fun _ _ => rfl)) (pa_cons (C8.pe_c cW hr (by omega) (by rfl) (pa_cons (pv 2) (pa_cons (pv 5) (pa_cons (pe_ix ix_tup (pv 1) pe_int (fun _ _ => rfl)) pa_nil)))) (pa_cons (pv 3) pa_nil)))))))))))), ?_⟩
    have nm : ∀ {G : Hp} {q : Wd → Prop} {b nn ix : Nat}, (start nLf [.ref p, v, .ref a, .ref a2])[ix]? = some (some (.ref b)) → NmsAt q G b nn → nn ≤ 60 → KdAt G v k →
        EvP (tLc (iList K (tVar ix)) (gTup K 2 (gCons (gName 6) (gCons (gName 7) gNil))) (tTest (tOp (rEqD K) (tVar 7) (tVar 1))) (tVar 6) [6, 7]) (start nLf [.ref p, v, .ref a, .ref a2]) G fun v H1 => ∃ p ws, v = .ref p ∧ G p = none ∧ H1 p = some (.lst (wV ws)) ∧ ws.length ≤ nn ∧ ∀ z ∈ ws, q z := fun hi hN hle hvG =>
      ev_named (K := K) (σ := start nLf [.ref p, v, .ref a, .ref a2]) (vs := [6, 7]) (ev_var hi) hN (by omega) hvG (by omega) (fun _ _ => rfl) (fun _ _ => rfl) (fun _ _ => rfl) (fun _ _ => rfl)
    refine q_set (r_op ?_)
    refine nm (ix := 2) rfl ha (by omega) hv _ fun r1 H1 e1 hr1 => ?_
    obtain ⟨l1, ws1, rfl, f1, g1, n1, ok1⟩ := hr1
    refine nm (ix := 3) rfl (ha2.ex e1) (by omega) (hv.ex e1) _ fun r2 H2 e2 hr2 => ?_
    obtain ⟨l2, ws2, rfl, f2, g2, n2, ok2⟩ := hr2
    refine ⟨l1, l2, _, _, rfl, rfl, e2 _ _ g1, g2, by rw [sizeLine_eq, List.length_map, List.length_map]; omega, fun s0 hs0 => ?_⟩
    have out2 : ∀ z ∈ ws1 ++ ws2, Out B Ps 2 [z] := fun z hz => by
      rcases List.mem_append.1 hz with hz | hz
      · exact (ok1 z hz).out
      · exact (ok2 z hz).out
    have low : ∀ z ∈ ws1 ++ ws2, Low z := fun z hz => by
      rcases List.mem_append.1 hz with hz | hz
      · exact NmOk.low (ok1 z hz)
      · exact PtOk.low (ok2 z hz)
    have len : (ws1 ++ ws2).length ≤ 120 := by rw [List.length_append]; omega
    rw [← List.map_append]
    have e3 : Ex H (upd H2 s0 (.lst (wV (ws1 ++ ws2)))) := (e1.trans e2).trans (ex_put hs0 (Ex.refl H2))
    have g3 : (upd H2 s0 (.lst (wV (ws1 ++ ws2)))) s0 = some (.lst (wV (ws1 ++ ws2))) := upd_same
    have f3 : H s0 = none := fresh_back (e1.trans e2) hs0
    generalize upd H2 s0 (.lst (wV (ws1 ++ ws2))) = H3 at e3 g3 ⊢
    generalize ws1 ++ ws2 = ws at out2 low len g3
    clear g1 g2 n1 n2 ok1 ok2 f1 f2 e1 e2 hs0
    dsimp only [List.set]
    have lc : costL (d + 1) = 3 + 2 * costL d := rfl
    have ll : lenL (d + 1) = 2 + 2 * lenL d := rfl
    refine q_ifR (r_some (ws := ws) (c := c) rfl rfl g3 low (hp.ex e3) (by omega) fun bb G c1 kG hpG hcG hbb => ?_)
    have kG0 : Kp p H G := Kp.pre e3 kG
    have hvG := hv.keep hp kG0
    have haG := ha.keep hp kG0 hap
    have ha2G := ha2.keep hp kG0 hap2
    cases bb with
    | true =>
      rw [if_pos rfl]
      have hne := hbb rfl
      have s0p : s0 ≠ p := words_ne (hp.ex e3) g3
      have gG : G s0 = some (.lst (wV ws)) := kG _ _ s0p g3
      refine r_ret (r_lst1 (r_call (vs := [.ref p, .ref s0]) (ea_cons (ev_var rfl) (ea_cons (ev_var rfl) ea_nil)) fun H5 e5 => ⟨p, s0, c1, wV ws, rfl, hpG.ex e5, by omega, e5 _ _ gG, by rw [List.length_map]; exact List.length_pos_iff.2 hne, by rw [List.length_map]; omega, s0p, fun x c2 H6 hx k6 hp6 hc6 => fun q hq => ?_⟩))
      obtain ⟨z, hz, rfl⟩ := List.mem_map.1 hx
      have e7 : Ex H6 (upd H6 q (.lst [.str (S z)])) := ex_put hq (Ex.refl H6)
      exact kk q [z] c2 _ ((kG0.trans (Kp.pre e5 k6)).ex e7) (hp6.ex e7) (by omega) upd_same ((out2 z hz).mono (fun _ h => h) (fun _ h => h) (by omega)) (by show 1 ≤ _; omega)
    | false =>
      rw [if_neg (by decide)]
      refine q_ifR ⟨v, rfl, _, _, hvG.dp, .str _, kdD_shaped (by omega), by decide +kernel, _, rfl, ?_⟩
      cases k with
      | n =>
        rw [if_pos (by decide +kernel)]
        refine r_ret (r_lst1 (r_cb (r_callVL (ev_var rfl) (el_lst (ea_cons ev_c (ea_cons ev_c (ea_cons ev_c (ea_cons ev_c (ea_cons ev_c (ea_cons ev_neg (ea_cons ev_neg (ea_cons ev_c ea_nil)))))))) (by show 8 ≤ 100000; decide)) fun t H5 ht e5 hx => ⟨p, t, c1, _, rfl, hpG.ex e5, by omega, hx, by show 0 < 8; decide, by show 8 ≤ 1000; decide, pot_ne hpG ht, fun x c2 H6 hx k6 hp6 hc6 => ?_⟩)))
        have num : ∃ (i : Int) (z : Wd), x = .int i ∧ i.natAbs.log2 < 1920 ∧ Str.ofString (toString i) = S z ∧ ari z = none ∧ written z = true ∧ okFree z = false ∧ z.head? ≠ some 64 := by
          simp only [List.mem_cons, List.not_mem_nil, or_false] at hx
          rcases hx with rfl | rfl | rfl | rfl | rfl | rfl | rfl | rfl
          · exact ⟨0, [48], rfl, by decide +kernel, by decide +kernel, by decide, by decide, by decide, by decide⟩
          · exact ⟨1, [49], rfl, by decide +kernel, by decide +kernel, by decide, by decide, by decide, by decide⟩
          · exact ⟨2, [50], rfl, by decide +kernel, by decide +kernel, by decide, by decide, by decide, by decide⟩
          · exact ⟨3, [51], rfl, by decide +kernel, by decide +kernel, by decide, by decide, by decide, by decide⟩
          · exact ⟨5, [53], rfl, by decide +kernel, by decide +kernel, by decide, by decide, by decide, by decide⟩
          · exact ⟨-1, [45, 49], rfl, by decide +kernel, by decide +kernel, by decide, by decide, by decide, by decide⟩
          · exact ⟨-4, [45, 52], rfl, by decide +kernel, by decide +kernel, by decide, by decide, by decide, by decide⟩
          · exact ⟨40, [52, 48], rfl, by decide +kernel, by decide +kernel, by decide, by decide, by decide, by decide⟩
        obtain ⟨i, z, rfl, l0, hz, z1, z2, z3, z4⟩ := num
        refine ⟨i, rfl, l0, ?_⟩
        rw [hz]
        intro q hq
        have e7 : Ex H6 (upd H6 q (.lst [.str (S z)])) := ex_put hq (Ex.refl H6)
        exact kk q [z] c2 _ ((kG0.trans (Kp.pre e5 k6)).ex e7) (hp6.ex e7) (by omega) upd_same ((out_num z1 z2 z3 z4).mono (fun _ h => h) (fun _ h => h) (by omega)) (by show 1 ≤ _; omega)
      | f ka kb =>
        rw [if_neg (by simp [kdD, PyData.eqv])]
        simp only [Kd.dep] at hkd kk
        obtain ⟨t, x, y, rfl, ht, hx, hy⟩ := hvG
        refine q_ifR ⟨_, rfl, t, _, 0, _, rfl, rfl, st_of ht, rfl, rfl, _, rfl, ?_⟩
        dsimp only
        rw [if_neg (by decide +kernel)]
        refine q_callA (vs := [.ref p]) (ea_cons (ev_var rfl) ea_nil) fun H5 e5 => ⟨p, c1, rfl, hpG.ex e5, by omega, fun z c2 H6 hz k6 hp6 hc6 => ?_⟩
        have k16 : Kp p G H6 := Kp.pre e5 k6
        refine r_ret (r_op ?_)
        refine (el_lst (ea_cons ev_c (ea_cons (ev_var rfl) ea_nil)) (by show 2 ≤ 100000; decide)) H6 (Ex.refl H6) _ fun l H7 hl7 e7 hx7 => ?_
        have ht7 : H7 t = some (.tup [.str (Str.ofString "f"), x, y]) := e7 _ _ (pot_tup hpG k16 _ _ ht)
        have hlp : l ≠ p := pot_ne hp6 hl7
        refine ⟨_, rfl, ev_ixT (K := K) (n := 2) rfl ht7 rfl H7 (Ex.refl H7) _ fun H8 e8 => ?_⟩
        refine r_cons (r_call (vs := [.ref a, .str (S z), x]) (ea_cons (ev_var rfl) (ea_cons (ev_var rfl) (ea_cons (ev_ixT (K := K) (n := 1) rfl (e8 _ _ ht7) rfl) ea_nil))) fun H9 e9 => ⟨a, z, x, ka, NmOk B Ps, n, rfl, (((haG.keep hpG k16 hap).ex e7).ex e8).ex e9, by omega, (((hx.keep hpG k16).ex e7).ex e8).ex e9, by omega, fun b8 H10 e10 hb10 hN10 => ?_⟩)
        have e710 : Ex H6 H10 := ((e7.trans e8).trans e9).trans e10
        have hp10 := hp6.ex e710
        refine ⟨_, rfl, ?_⟩
        refine ⟨p, b8, a2, y, kb, c2, n + 1, m, z :: B, Ps, rfl, by omega, by omega, hp10, by omega, (hy.keep hpG k16).ex e710, hN10.sub (nm_more (frs_bns hz)), (ha2G.keep hpG k16 hap2).ex e710, by omega, hm, fun z => pot_ne (hp6.ex ((e7.trans e8).trans e9)) hb10 z, hap2, fun q ws' c' H11 k11 hp11 hc11 hq11 ho11 hl11 => ?_⟩
        refine ⟨l, q, _, _, rfl, rfl, k11 _ _ hlp (((e8.trans e9).trans e10) _ _ hx7), hq11, by rw [sizeLine_eq, List.length_map]; have := ll12 (d := d) (by omega); simp; omega, fun q2 hq2 => ?_⟩
        have hw : ([V.str (Str.ofString "fun"), .str (S z)] ++ wV ws') = wV (FUN :: z :: ws') := by rw [show (Str.ofString "fun" : Str) = S FUN from by decide]; rfl
        rw [hw]
        have e12 : Ex H11 (upd H11 q2 (.lst (wV (FUN :: z :: ws')))) := ex_put hq2 (Ex.refl H11)
        exact kk q2 _ c' _ (((kG0.trans k16).trans (Kp.pre e710 k11)).ex e12) (hp11.ex e12) (by omega) upd_same ((out_fun (frs_bns hz) ho11).mono (fun _ h => h) (fun _ h => h) (by omega)) (by show ws'.length + 1 + 1 ≤ _; omega)
      | p ka kb =>
        rw [if_neg (by simp [kdD, PyData.eqv])]
        simp only [Kd.dep] at hkd kk
        obtain ⟨t, x, y, rfl, ht, hx, hy⟩ := hvG
        refine q_ifR ⟨_, rfl, t, _, 0, _, rfl, rfl, st_of ht, rfl, rfl, _, rfl, ?_⟩
        dsimp only
        rw [if_pos (by decide +kernel)]
        refine r_ret (r_op (r_op ?_))
        refine (el_lst (ea_cons ev_c ea_nil) (by show 1 ≤ 100000; decide)) G (Ex.refl G) _ fun l H7 hl7 e7 hx7 => ?_
        have hlp : l ≠ p := pot_ne hpG hl7
        refine r_call (vs := [.ref p, x, .ref a, .ref a2]) (ea_cons (ev_var rfl) (ea_cons (ev_ixT (K := K) (n := 1) rfl (e7 _ _ ht) rfl) (ea_cons (ev_var rfl) (ea_cons (ev_var rfl) ea_nil)))) fun H8 e8 => ?_
        have e78 := e7.trans e8
        refine ⟨p, a, a2, x, ka, c1, n, m, B, Ps, rfl, by omega, by omega, hpG.ex e78, by omega, hx.ex e78, haG.ex e78, ha2G.ex e78, by omega, hm, hap, hap2, fun q1 w1 c2 H9 k9 hp9 hc9 hq9 ho9 hl9 => ?_⟩
        have b12 := ll12 (d := d) (by omega)
        refine ⟨l, q1, _, _, rfl, rfl, k9 _ _ hlp (e8 _ _ hx7), hq9, by rw [sizeLine_eq, List.length_map]; simp; omega, fun q2 hq2 => ?_⟩
        have hw : ([V.str (Str.ofString "pair")] ++ wV w1) = wV (PAIR :: w1) := by rw [show (Str.ofString "pair" : Str) = S PAIR from by decide]; rfl
        rw [hw]
        have e10 : Ex H9 (upd H9 q2 (.lst (wV (PAIR :: w1)))) := ex_put hq2 (Ex.refl H9)
        have h10 : (upd H9 q2 (.lst (wV (PAIR :: w1)))) q2 = some (.lst (wV (PAIR :: w1))) := upd_same
        generalize upd H9 q2 (.lst (wV (PAIR :: w1))) = H10 at e10 h10 ⊢
        have hp10 := hp9.ex e10
        have k010 : Kp p G H10 := (Kp.pre e78 k9).ex e10
        have q2p : q2 ≠ p := words_ne hp10 h10
        refine r_call (vs := [.ref p, y, .ref a, .ref a2]) (ea_cons (ev_var rfl) (ea_cons (ev_ixT (K := K) (n := 2) rfl (pot_tup hpG k010 _ _ ht) rfl) (ea_cons (ev_var rfl) (ea_cons (ev_var rfl) ea_nil)))) fun H11 e11 => ?_
        have k011 := k010.ex e11
        refine ⟨p, a, a2, y, kb, c2, n, m, B, Ps, rfl, by omega, by omega, hp10.ex e11, by omega, hy.keep hpG k011, haG.keep hpG k011 hap, ha2G.keep hpG k011 hap2, by omega, hm, hap, hap2, fun q3 w2 c3 H12 k12 hp12 hc12 hq12 ho12 hl12 => ?_⟩
        refine ⟨q2, q3, _, _, rfl, rfl, k12 _ _ q2p (e11 _ _ h10), hq12, by rw [sizeLine_eq, List.length_map, List.length_map]; simp; omega, fun q4 hq4 => ?_⟩
        have hw2 : (wV (PAIR :: w1) ++ wV w2) = wV (PAIR :: (w1 ++ w2)) := by rw [← List.map_append]; rfl
        rw [hw2]
        have e13 : Ex H12 (upd H12 q4 (.lst (wV (PAIR :: (w1 ++ w2))))) := ex_put hq4 (Ex.refl H12)
        exact kk q4 _ c3 _ (((kG0.trans k011).trans k12).ex e13) (hp12.ex e13) (by omega) upd_same ((out_bi (s := PAIR) (d := 2 + max ka.dep kb.dep) (by decide) (by decide) (ho9.mono (fun _ h => h) (fun _ h => h) (by omega)) (ho12.mono (fun _ h => h) (fun _ h => h) (by omega))).mono (fun _ h => h) (fun _ h => h) (by omega)) (by show (w1 ++ w2).length + 1 ≤ _; rw [List.length_append]; omega)
end
end K5
set_option Elab.async false
set_option linter.all false
set_option maxRecDepth 100000
set_option maxHeartbeats 4000000
namespace K5
open PySem PySem.Spec PyProof.Rows L2 Evl Xl SX Mi
def costE : Nat → Nat
  | 0 => costL 10
  | e + 1 => 20 + costL 10 + 3 * costE e
def lenE : Nat → Nat
  | 0 => lenL 10
  | e + 1 => 2 + lenL 10 + 3 * lenE e
theorem lenE_le {e : Nat} (h : e ≤ 4) : lenE e ≤ 400000 := by
  have : ∀ e, e ≤ 4 → lenE e ≤ 400000 := by decide +kernel
  exact this e h
theorem costE_le {e : Nat} : costL 10 ≤ costE e := by cases e <;> simp only [costE] <;> omega
theorem lenE_ge {e : Nat} : lenL 10 ≤ lenE e := by cases e <;> simp only [lenE] <;> omega
/-- an expression of a kind is drawn -/
def spEx (d : Nat) : Sp := fun vs H Q _ => ∃ (p a a2 : Addr) (v : V) (k : Kd) (c n m e : Nat) (B Ps : List Wd), vs = [.ref p, v, .ref a, .ref a2, .int e] ∧ d = e + 1 ∧ e ≤ 4 ∧ k.dep + e ≤ 9 ∧ PotAt p c H ∧ c + costE e ≤ 2000000 ∧ KdAt H v k ∧
  NmsAt (NmOk B Ps) H a n ∧ NmsAt (PtOk Ps) H a2 m ∧ n + e ≤ 40 ∧ m ≤ 60 ∧ a ≠ p ∧ a2 ≠ p ∧
  ∀ (q : Addr) (ws : List Wd) (c' : Nat) (H' : Hp), Kp p H H' → PotAt p c' H' → c' ≤ c + costE e → H' q = some (.lst (wV ws)) → Out B Ps (11 + e) ws → ws.length ≤ lenE e → Q (.ref q) H'
theorem r_expr {d : Nat} {σ : L2.St} {H : Hp} {Q : VK} {ta : TA} {p a a2 : Addr} {v : V} {k : Kd} {c n m e : Nat} {B Ps : List Wd} (hA : EvA ta σ H [.ref p, v, .ref a, .ref a2, .int e]) (hd : d = e + 1) (he : e ≤ 4) (hk : k.dep + e ≤ 9) (hp : PotAt p c H) (hc : c + costE e ≤ 2000000) (hv : KdAt H v k)
    (ha : NmsAt (NmOk B Ps) H a n) (ha2 : NmsAt (PtOk Ps) H a2 m) (hn : n + e ≤ 40) (hm : m ≤ 60) (hap : a ≠ p) (hap2 : a2 ≠ p)
    (kk : ∀ (q : Addr) (ws : List Wd) (c' : Nat) (H' : Hp), Kp p H H' → PotAt p c' H' → c' ≤ c + costE e → H' q = some (.lst (wV ws)) → q ≠ p → Out B Ps (11 + e) ws → ws.length ≤ lenE e → Q (.ref q) H') : tCall (spEx d) [] C8.E0 ta σ H Q :=
  r_call hA fun H1 e1 => ⟨p, a, a2, v, k, c, n, m, e, B, Ps, rfl, hd, he, hk, hp.ex e1, hc, hv.ex e1, ha.ex e1, ha2.ex e1, hn, hm, hap, hap2, fun q ws c' H' k1 hp' hc' hq ho hl => kk q ws c' H' (Kp.pre e1 k1) hp' hc' hq (words_ne hp' hq) ho hl⟩
theorem r_leafc {d : Nat} {σ : L2.St} {H : Hp} {Q : VK} {ta : TA} {p a a2 : Addr} {v : V} {k : Kd} {c n m : Nat} {B Ps : List Wd} (hA : EvA ta σ H [.ref p, v, .ref a, .ref a2]) (hk : k.dep < d) (hd : d ≤ 12) (hp : PotAt p c H) (hc : c + costL d ≤ 2000000) (hv : KdAt H v k)
    (ha : NmsAt (NmOk B Ps) H a n) (ha2 : NmsAt (PtOk Ps) H a2 m) (hn : n + d ≤ 60) (hm : m ≤ 60) (hap : a ≠ p) (hap2 : a2 ≠ p)
    (kk : ∀ (q : Addr) (ws : List Wd) (c' : Nat) (H' : Hp), Kp p H H' → PotAt p c' H' → c' ≤ c + costL d → H' q = some (.lst (wV ws)) → q ≠ p → Out B Ps (2 + k.dep) ws → ws.length ≤ lenL d → Q (.ref q) H') : tCall (spLeaf d) [] C8.E0 ta σ H Q :=
  r_call hA fun H1 e1 => ⟨p, a, a2, v, k, c, n, m, B, Ps, rfl, hk, hd, hp.ex e1, hc, hv.ex e1, ha.ex e1, ha2.ex e1, hn, hm, hap, hap2, fun q ws c' H' k1 hp' hc' hq ho hl => kk q ws c' H' (Kp.pre e1 k1) hp' hc' hq (words_ne hp' hq) ho hl⟩
theorem r_kind {d : Nat} {σ : L2.St} {H : Hp} {Q : VK} {ta : TA} {p : Addr} {c e : Nat} (hA : EvA ta σ H [.ref p, .int e]) (hd : d = e + 1) (hp : PotAt p c H) (hc : c + costK e ≤ 2000000)
    (kk : ∀ (v : V) (k : Kd) (c' : Nat) (H' : Hp), Kp p H H' → PotAt p c' H' → c' ≤ c + costK e → KdAt H' v k → k.dep ≤ e → Q v H') : tCall (spKd d) [] C8.E0 ta σ H Q :=
  r_call hA fun H1 e1 => ⟨p, c, e, hd, rfl, hp.ex e1, hc, fun v k c' H' k1 hp' hc' hv hk => kk v k c' H' (Kp.pre e1 k1) hp' hc' hv hk⟩
theorem r_fresh {σ : L2.St} {H : Hp} {Q : VK} {ta : TA} {p : Addr} {c : Nat} (hA : EvA ta σ H [.ref p]) (hp : PotAt p c H) (hc : c ≤ 2000000)
    (kk : ∀ (x : Wd) (c' : Nat) (H' : Hp), x ∈ BNS → Kp p H H' → PotAt p c' H' → c' ≤ c + 1 → Q (.str (S x)) H') : tCall spFresh [] C8.E0 ta σ H Q :=
  r_call hA fun H1 e1 => ⟨p, c, rfl, hp.ex e1, hc, fun x c' H' hx k1 hp' hc' => kk x c' H' (frs_bns hx) (Kp.pre e1 k1) hp' hc'⟩
theorem r_take {σ : L2.St} {H : Hp} {Q : VK} {ta : TA} {p : Addr} {c u : Nat} (hA : EvA ta σ H [.ref p, .int u]) (hu : 0 < u) (hu2 : u ≤ 1000) (hp : PotAt p c H) (hc : c ≤ 2000000)
    (kk : ∀ (r c' : Nat) (H' : Hp), r < u → Kp p H H' → PotAt p c' H' → c' ≤ c + 1 → Q (.int r) H') : tCall spTk [] C8.E0 ta σ H Q :=
  r_call hA fun H1 e1 => ⟨p, c, u, rfl, hu, hu2, hp.ex e1, hc, fun r c' H' hr k1 hp' hc' => kk r c' H' hr (Kp.pre e1 k1) hp' hc'⟩
/-- a list with one name more -/
theorem r_with {σ : L2.St} {H : Hp} {Q : VK} {ta : TA} {a : Addr} {x : Wd} {v : V} {k : Kd} {B Ps : List Wd} {n : Nat} (hA : EvA ta σ H [.ref a, .str (S x), v]) (hx : x ∈ BNS) (ha : NmsAt (NmOk B Ps) H a n) (hn : n ≤ 100) (hv : KdAt H v k) (hk : k.dep ≤ 20)
    (kk : ∀ (b : Addr) (H' : Hp), Ex H H' → H b = none → NmsAt (NmOk (x :: B) Ps) H' b (n + 1) → Q (.ref b) H') : tCall spWith [] C8.E0 ta σ H Q :=
  r_call hA fun H1 e1 => ⟨a, x, v, k, NmOk B Ps, n, rfl, ha.ex e1, hn, hv.ex e1, hk, fun b H' e2 hb h => kk b H' (e1.trans e2) (fresh_back e1 hb) (h.sub (nm_more hx))⟩
theorem r_catW {w1 w2 : List Wd} {l q : Addr} {H : Hp} {Q : VK} (h1 : H l = some (.lst (wV w1))) (h2 : H q = some (.lst (wV w2))) (hl : w1.length + w2.length ≤ 16000000) (k : ∀ q2 H', Ex H H' → H q2 = none → H' q2 = some (.lst (wV (w1 ++ w2))) → Q (.ref q2) H') : rCat (.ref l) (.ref q) H Q :=
  ⟨l, q, _, _, rfl, rfl, h1, h2, by rw [sizeLine_eq, List.length_map, List.length_map]; omega, fun q2 hq2 => by
    rw [← List.map_append]
    exact k q2 _ (ex_put hq2 (Ex.refl H)) hq2 upd_same⟩
theorem ew1 {s : Str} {x : Wd} {σ : L2.St} {H : Hp} (h : s = S x) : EvL (tLst (tCons (tC (.str s)) tNil)) σ H (wV [x]) := by
  subst h; exact el_lst (ea_cons ev_c ea_nil) (by show 1 ≤ 100000; decide)
theorem ew2 {s : Str} {x y : Wd} {i : Nat} {σ : L2.St} {H : Hp} (h : s = S x) (hi : σ[i]? = some (some (.str (S y)))) : EvL (tLst (tCons (tC (.str s)) (tCons (tVar i) tNil))) σ H (wV [x, y]) := by
  subst h; exact el_lst (ea_cons ev_c (ea_cons (ev_var hi) ea_nil)) (by show 2 ≤ 100000; decide)
theorem ewv {y : Wd} {i : Nat} {σ : L2.St} {H : Hp} (hi : σ[i]? = some (some (.str (S y)))) : EvL (tLst (tCons (tVar i) tNil)) σ H (wV [y]) :=
  el_lst (ea_cons (ev_var hi) ea_nil) (by show 1 ≤ 100000; decide)
/-- a tuple that tells a kind -/
theorem r_kdF {σ : L2.St} {H : Hp} {Q : VK} {s : Str} {i j : Nat} {x y : V} (hi : σ[i]? = some (some x)) (hj : σ[j]? = some (some y)) (k : ∀ t H1, Ex H H1 → H t = none → H1 t = some (.tup [.str s, x, y]) → Q (.ref t) H1) : tTup (tCons (tC (.str s)) (tCons (tVar i) (tCons (tVar j) tNil))) σ H Q :=
  ⟨_, hi, _, hj, by show 3 ≤ sizeLine; rw [sizeLine_eq]; omega, fun t ht => k t _ (ex_put ht (Ex.refl H)) ht upd_same⟩
/-- an expression of the program that draws and has a list of words -/
def Dw (p : Addr) (te : TE) (σ : L2.St) (G : Hp) (R : Nat → List Wd → Prop) : Prop := ∀ Q : VK, (∀ (q : Addr) (ws : List Wd) (c' : Nat) (H' : Hp), Kp p G H' → PotAt p c' H' → R c' ws → H' q = some (.lst (wV ws)) → q ≠ p → Q (.ref q) H') → te σ G Q
theorem dw_lit {p : Addr} {tl : TE} {σ : L2.St} {G : Hp} {c : Nat} {w0 : List Wd} (hp : PotAt p c G) (h : EvL tl σ G (wV w0)) : Dw p tl σ G fun c' ws => c' = c ∧ ws = w0 := fun Q k =>
  h G (Ex.refl G) _ fun l H2 hl e2 hx => k l w0 c H2 (Keep.of e2) (hp.ex e2) ⟨rfl, rfl⟩ hx (pot_ne hp hl)
theorem dw_var {p q1 : Addr} {i : Nat} {σ : L2.St} {G : Hp} {c : Nat} {w1 : List Wd} (hp : PotAt p c G) (h : σ[i]? = some (some (.ref q1))) (hq : G q1 = some (.lst (wV w1))) : Dw p (tVar i) σ G fun c' ws => c' = c ∧ ws = w1 := fun Q k =>
  ⟨_, h, k q1 w1 c G (Keep.refl _ _) hp ⟨rfl, rfl⟩ hq (words_ne hp hq)⟩
theorem dw_cat {p : Addr} {ta tb : TE} {σ : L2.St} {G : Hp} {R1 : Nat → List Wd → Prop} {R2 : Nat → List Wd → Nat → List Wd → Prop} (ha : Dw p ta σ G R1) (hb : ∀ c1 w1 G1, Kp p G G1 → PotAt p c1 G1 → R1 c1 w1 → Dw p tb σ G1 (R2 c1 w1))
    (hs : ∀ c1 w1 c w2, R1 c1 w1 → R2 c1 w1 c w2 → w1.length + w2.length ≤ 16000000) : Dw p (tOp rCat ta tb) σ G fun c ws => ∃ c1 w1 w2, R1 c1 w1 ∧ R2 c1 w1 c w2 ∧ ws = w1 ++ w2 := fun Q k =>
  ha _ fun q1 w1 c1 H1 k1 hp1 r1 hq1 n1 => hb c1 w1 H1 k1 hp1 r1 _ fun q2 w2 c2 H2 k2 hp2 r2 hq2 n2 => r_catW (k2 _ _ n1 hq1) hq2 (hs _ _ _ _ r1 r2) fun q3 H3 e3 h3n h3 =>
    k q3 _ c2 H3 ((k1.trans k2).ex e3) (hp2.ex e3) ⟨c1, w1, w2, r1, r2, rfl⟩ h3 (pot_ne hp2 h3n)
theorem q_dw {p : Addr} {te : TE} {σ : L2.St} {G : Hp} {R : Nat → List Wd → Prop} {D : Ends} {tz : TS} {i : Nat} (h : Dw p te σ G R) (k : ∀ (q : Addr) (ws : List Wd) (c' : Nat) (H' : Hp), Kp p G H' → PotAt p c' H' → R c' ws → H' q = some (.lst (wV ws)) → q ≠ p → tz D (σ.set i (some (.ref q))) H') : tSeq (tAsg te (gName i)) tz D σ G := q_set (h _ k)
theorem dw_expr {d : Nat} {σ : L2.St} {H : Hp} {ta : TA} {p a a2 : Addr} {v : V} {k : Kd} {c n m e : Nat} {B Ps : List Wd} (hA : EvA ta σ H [.ref p, v, .ref a, .ref a2, .int e]) (hd : d = e + 1) (he : e ≤ 4) (hk : k.dep + e ≤ 9) (hp : PotAt p c H) (hc : c + costE e ≤ 2000000) (hv : KdAt H v k)
    (ha : NmsAt (NmOk B Ps) H a n) (ha2 : NmsAt (PtOk Ps) H a2 m) (hn : n + e ≤ 40) (hm : m ≤ 60) (hap : a ≠ p) (hap2 : a2 ≠ p) : Dw p (tCall (spEx d) [] C8.E0 ta) σ H fun c' ws => c' ≤ c + costE e ∧ Out B Ps (11 + e) ws ∧ ws.length ≤ lenE e := fun Q k1 =>
  r_expr hA hd he hk hp hc hv ha ha2 hn hm hap hap2 fun q ws c' H' kk hp' hc' hq hne ho hl => k1 q ws c' H' kk hp' ⟨hc', ho, hl⟩ hq hne
/-- the kind is a tuple made for the call -/
theorem dw_exprT {d : Nat} {σ : L2.St} {H : Hp} {R : TA} {p a a2 : Addr} {x y : V} {s : Str} {i j : Nat} {k : Kd} {c n m e : Nat} {B Ps : List Wd} (h0 : σ[0]? = some (some (.ref p))) (hi : σ[i]? = some (some x)) (hj : σ[j]? = some (some y)) (hR : EvA R σ H [.ref a, .ref a2, .int e])
    (kd : ∀ t H1, Ex H H1 → H1 t = some (.tup [.str s, x, y]) → KdAt H1 (.ref t) k) (hd : d = e + 1) (he : e ≤ 4) (hk : k.dep + e ≤ 9) (hp : PotAt p c H) (hc : c + costE e ≤ 2000000)
    (ha : NmsAt (NmOk B Ps) H a n) (ha2 : NmsAt (PtOk Ps) H a2 m) (hn : n + e ≤ 40) (hm : m ≤ 60) (hap : a ≠ p) (hap2 : a2 ≠ p) : Dw p (tCall (spEx d) [] C8.E0 (tCons (tVar 0) (tCons (tTup (tCons (tC (.str s)) (tCons (tVar i) (tCons (tVar j) tNil)))) R))) σ H fun c' ws => c' ≤ c + costE e ∧ Out B Ps (11 + e) ws ∧ ws.length ≤ lenE e := fun Q k1 =>
  ⟨_, h0, r_cons (r_kdF hi hj fun t H1 e1 ht hH => hR H1 e1 _ fun H2 e2 => ⟨p, a, a2, .ref t, k, c, n, m, e, B, Ps, rfl, hd, he, hk, (hp.ex e1).ex e2, hc, (kd t H1 e1 hH).ex e2, (ha.ex e1).ex e2, (ha2.ex e1).ex e2, hn, hm, hap, hap2, fun q ws c' H' kk hp' hc' hq ho hl => k1 q ws c' H' (Kp.pre (e1.trans e2) kk) hp' ⟨hc', ho, hl⟩ hq (words_ne hp' hq)⟩)⟩
/-- one name more for the call -/
theorem dw_exprW {d : Nat} {σ : L2.St} {H : Hp} {t1 : TE} {tw : TA} {t3 t4 : TE} {p a a2 : Addr} {v u : V} {x : Wd} {k kx : Kd} {c n m e : Nat} {B Ps : List Wd} (h0 : σ[0]? = some (some (.ref p))) (h1 : Ev t1 σ H v) (hw : EvA tw σ H [.ref a, .str (S x), u]) (h3 : Ev t3 σ H (.ref a2)) (h4 : Ev t4 σ H (.int e))
    (hx : x ∈ BNS) (hu : KdAt H u kx) (hux : kx.dep ≤ 20) (hd : d = e + 1) (he : e ≤ 4) (hk : k.dep + e ≤ 9) (hp : PotAt p c H) (hc : c + costE e ≤ 2000000) (hv : KdAt H v k)
    (ha : NmsAt (NmOk B Ps) H a n) (ha2 : NmsAt (PtOk Ps) H a2 m) (hn : n + 1 + e ≤ 40) (hm : m ≤ 60) (hap : a ≠ p) (hap2 : a2 ≠ p) : Dw p (tCall (spEx d) [] C8.E0 (tCons (tVar 0) (tCons t1 (tCons (tCall spWith [] C8.E0 tw) (tCons t3 (tCons t4 tNil)))))) σ H fun c' ws => c' ≤ c + costE e ∧ Out (x :: B) Ps (11 + e) ws ∧ ws.length ≤ lenE e := fun Q k1 =>
  ⟨_, h0, h1 H (Ex.refl H) _ fun H1 e1 => r_cons (r_with (fun G eG => hw G (e1.trans eG)) hx (ha.ex e1) (by omega) (hu.ex e1) hux fun b H2 e2 hb hN => h3 H2 (e1.trans e2) _ fun H3 e3 => h4 H3 ((e1.trans e2).trans e3) _ fun H4 e4 =>
    ⟨p, b, a2, v, k, c, n + 1, m, e, x :: B, Ps, rfl, hd, he, hk, hp.ex (((e1.trans e2).trans e3).trans e4), hc, hv.ex (((e1.trans e2).trans e3).trans e4), hN.ex (e3.trans e4), ha2.ex (((e1.trans e2).trans e3).trans e4), hn, hm, pot_ne (hp.ex e1) hb, hap2, fun q ws c' H' kk hp' hc' hq ho hl => k1 q ws c' H' (Kp.pre (((e1.trans e2).trans e3).trans e4) kk) hp' ⟨hc', ho, hl⟩ hq (words_ne hp' hq)⟩)⟩
end K5
set_option Elab.async false
set_option linter.all false
set_option maxRecDepth 100000
set_option maxHeartbeats 4000000
namespace K5
open PySem PySem.Spec PyProof.Rows L2 Evl Xl SX Mi
abbrev PICK : Wd := [112, 105, 99, 107]
theorem sub_one {g : Nat} {σ : L2.St} {G : Hp} (h : σ[4]? = some (some (.int ((g + 1 : Nat) : Int)))) : Ev (tOp (rI0 fun i j => V.int (i - j)) (tVar 4) (tC (.int 1))) σ G (.int g) :=
  ev_is (ev_op (ev_var h) ev_c rv_I0) (by congr 1; push_cast; omega)
theorem q_par {ta : TA} {σ : L2.St} {H : Hp} {i j : Nat} {D : Ends} {tz : TS} (h : ta σ H fun vs H1 => ∃ v w, vs = [v, w] ∧ tz D ((σ.set i (some v)).set j (some w)) H1) : tSeq (tPar i j ta) tz D σ H := h
theorem r_lst2 {ta tb : TE} {σ : L2.St} {H : Hp} {Q : VK} (h : ta σ H fun x H1 => tb σ H1 fun y H2 => [x, y].length ≤ sizeLine ∧ ∀ q, H2 q = none → Q (.ref q) (upd H2 q (.lst [x, y]))) : tLst (tCons ta (tCons tb tNil)) σ H Q := h
theorem two_le {x y : V} : [x, y].length ≤ sizeLine := by rw [sizeLine_eq]; show 2 ≤ _; omega
section
variable {P : Program} {w : World} {K : PySem.W.Frag} {mg : Str → Option Value} {base : Heap} {f : Addr} {fd : FuncData}
abbrev nExp : List Str := ["pot", "kind", "names", "parts", "deep", "way", "other", "front", "fresh", "rest", "pair", "word"]
theorem scExp : FnScope nExp ["pot", "kind", "names", "parts", "deep"] (C8.fnScope (top 48)) := C8.fnScope_by (by decide +kernel)
theorem ok_express (F : C8.Def K mg "_law_expression" (top 48) f fd) (b : Binds K fd ["pot", "kind", "names", "parts", "deep"] []) (T : Txt3 K w mg) (cT : C8.Cal P w K mg base 1 "_law_take" spTk []) (cO : C8.Cal P w K mg base 2 "_law_of" (spOfG K) [])
    (cF : C8.Cal P w K mg base 3 "_law_fresh" spFresh []) (cW : C8.Cal P w K mg base 1 "_law_with" spWith []) (cK : ∀ d, C8.Cal P w K mg base (2 + d) "_law_drawn_kind" (spKd d) []) (cL : C8.Cal P w K mg base 14 "_law_leaf" (spLeaf 10) []) : ∀ d, C8.Cal P w K mg base (15 + d) "_law_expression" (spEx d) [] := by
  intro d
  induction d with
  | zero => exact C8.cal0 F b .nil scExp (k := 14) (fun vs H Q E h => by obtain ⟨p, a, a2, v, k, c, n, m, e, B, Ps, _, hd, _⟩ := h; omega) (fun cdv A outer s H vs Q E hr h => by obtain ⟨p, a, a2, v, k, c, n, m, e, B, Ps, _, hd, _⟩ := h; omega)
  | succ d ih =>
    have cK2 := cK 2
    have cK3 := cK 3
    refine C8.cal0 F b .nil scExp (k := 15 + d) (fun vs H Q E h => by obtain ⟨p, a, a2, v, k, c, n, m, e, B, Ps, rfl, _⟩ := h; rfl) (fun cdv A outer s H vs Q E hr h => ?_)
    obtain ⟨p, a, a2, v, k, c, n, m, e, B, Ps, rfl, hd, he4, hke, hp, hc, hv, ha, ha2, hn, hm, hap, hap2, kk⟩ := h
    have hed : e = d := by omega
    subst hed
    refine ⟨_, pss_cons (ps_if (pt_cmpR op_eq (pv 4) pe_int (nomark _)) (pss_one (ps_ret (C8.pe_c cL hr (by omega) (by rfl) (pa_cons (pv 0) (pa_cons (pv 1) (pa_cons (pv 2) (pa_cons (pv 3) pa_nil))))))) pss_nil)
      (pss_cons (ps_set (i := 5) scExp.nd rfl (Or.inl rfl) (C8.pe_c cT hr (by omega) (by rfl) (pa_cons (pv 0) (pa_cons pe_int pa_nil))))
      (pss_cons (ps_if (pt_cmpR op_eq (pv 5) pe_int (nomark _)) (pss_one (ps_ret (C8.pe_c cL hr (by omega) (by rfl) (pa_cons (pv 0) (pa_cons (pv 1) (pa_cons (pv 2) (pa_cons (pv 3) pa_nil))))))) pss_nil)
      (pss_cons (ps_if (pt_cmpR op_lt (pv 5) pe_int (nomark _))
        (pss_cons (ps_set (i := 6) scExp.nd rfl (Or.inl rfl) (C8.pe_c cK2 hr (by omega) (by rfl) (pa_cons (pv 0) (pa_cons pe_int pa_nil))))
        (pss_cons (ps_set (i := 7) scExp.nd rfl (Or.inl rfl) (C8.pe_c ih hr (by omega) (by rfl) (pa_cons (pv 0) (pa_cons (pe_tup (pa_cons pe_str (pa_cons (pv 6) (pa_cons (pv 1) pa_nil)))) (pa_cons (pv 2) (pa_cons (pv 3) (pa_cons (pe_op op_sub (pv 4) pe_int) pa_nil)))))))
        (pss_one (ps_ret (pe_op op_cat (pe_op op_cat (pe_lst (pa_cons pe_str pa_nil)) (pv 7)) (C8.pe_c ih hr (by omega) (by rfl) (pa_cons (pv 0) (pa_cons (pv 6) (pa_cons (pv 2) (pa_cons (pv 3) (pa_cons (pe_op op_sub (pv 4) pe_int) pa_nil)))))))))))
        pss_nil)
      (pss_cons (ps_if (pt_cmpR op_eq (pv 5) pe_int (nomark _))
        (pss_cons (ps_par (i := 6) (j := 8) (by rfl) scExp.nd rfl rfl (by decide) rfl rfl (pa_cons (C8.pe_c cK3 hr (by omega) (by rfl) (pa_cons (pv 0) (pa_cons pe_int pa_nil))) (pa_cons (C8.pe_c cF hr (by omega) (by rfl) (pa_cons (pv 0) pa_nil)) pa_nil)) (by rfl))
        (pss_cons (ps_set (i := 7) scExp.nd rfl (Or.inl rfl) (C8.pe_c ih hr (by omega) (by rfl) (pa_cons (pv 0) (pa_cons (pv 6) (pa_cons (pv 2) (pa_cons (pv 3) (pa_cons (pe_op op_sub (pv 4) pe_int) pa_nil)))))))
        (pss_one (ps_ret (pe_op op_cat (pe_op op_cat (pe_lst (pa_cons pe_str (pa_cons (pv 8) pa_nil))) (pv 7)) (C8.pe_c ih hr (by omega) (by rfl) (pa_cons (pv 0) (pa_cons (pv 1) (pa_cons (C8.pe_c cW hr (by omega) (by rfl) (pa_cons (pv 2) (pa_cons (pv 8) (pa_cons (pv 6) pa_nil)))) (pa_cons (pv 3) (pa_cons (pe_op op_sub (pv 4) pe_int) pa_nil)))))))))))
        pss_nil)
      (pss_cons (ps_if (pt_cmpR op_eq (pv 5) pe_int (nomark _))
        (pss_cons (ps_set (i := 7) scExp.nd rfl (Or.inl rfl) (C8.pe_c ih hr (by omega) (by rfl) (pa_cons (pv 0) (pa_cons pe_str (pa_cons (pv 2) (pa_cons (pv 3) (pa_cons (pe_op op_sub (pv 4) pe_int) pa_nil)))))))
        (pss_cons (ps_set (i := 9) scExp.nd rfl (Or.inl rfl) (pe_op op_cat (C8.pe_c ih hr (by omega) (by rfl) (pa_cons (pv 0) (pa_cons (pv 1) (pa_cons (pv 2) (pa_cons (pv 3) (pa_cons (pe_op op_sub (pv 4) pe_int) pa_nil)))))) (C8.pe_c ih hr (by omega) (by rfl) (pa_cons (pv 0) (pa_cons (pv 1) (pa_cons (pv 2) (pa_cons (pv 3) (pa_cons (pe_op op_sub (pv 4) pe_int) pa_nil))))))))
        (pss_one (ps_ret (pe_op op_cat (pe_op op_cat (pe_lst (pa_cons pe_str pa_nil)) (pv 7)) (pv 9))))))
        pss_nil)
      (pss_cons (ps_if (pt_cmpR op_eq (pv 5) pe_int (nomark _))
        (pss_cons (ps_set (i := 6) scExp.nd rfl (Or.inl rfl) (C8.pe_c cK2 hr (by omega) (by rfl) (pa_cons (pv 0) (pa_cons pe_int pa_nil))))
        (pss_cons (ps_set (i := 10) scExp.nd rfl (Or.inl rfl) (pe_ix ix_list (pe_lst (pa_cons (pe_tup (pa_cons pe_str (pa_cons (pv 1) (pa_cons (pv 6) pa_nil)))) (pa_cons (pe_tup (pa_cons pe_str (pa_cons (pv 6) (pa_cons (pv 1) pa_nil)))) pa_nil))) (C8.pe_c cT hr (by omega) (by rfl) (pa_cons (pv 0) (pa_cons pe_int pa_nil))) (fun _ _ => rfl)))
        (pss_one (ps_ret (pe_op op_cat (pe_lst (pa_cons (pe_ix ix_list (pe_lst (pa_cons pe_str (pa_cons pe_str pa_nil))) (pe_callTy call_int1 (by rfl) T.int_ (by decide +kernel) (pa_cons (pe_cmpR (op_neD hr.units) (pe_ix ix_tup (pv 10) pe_int (fun _ _ => rfl)) (pv 1) (nomark _)) pa_nil)) (fun _ _ => rfl)) pa_nil)) (C8.pe_c ih hr (by omega) (by rfl) (pa_cons (pv 0) (pa_cons (pv 10) (pa_cons (pv 2) (pa_cons (pv 3) (pa_cons (pe_op op_sub (pv 4) pe_int) pa_nil)))))))))))
        pss_nil)
      (pss_cons (ps_if (pt_cmpR (op_eqD hr.units) (pv 1) pe_str (nomark _))
        (pss_cons (ps_set (i := 11) scExp.nd rfl (Or.inl rfl) (C8.pe_c cO hr (by omega) (by rfl) (pa_cons (pv 0) (pa_cons (pe_lst (pa_cons pe_str (pa_cons pe_str (pa_cons pe_str pa_nil)))) pa_nil))))
        (pss_one (ps_ret (pe_op op_cat (pe_op op_cat (pe_lst (pa_cons (pv 11) pa_nil)) (C8.pe_c ih hr (by omega) (by rfl) (pa_cons (pv 0) (pa_cons pe_str (pa_cons (pv 2) (pa_cons (pv 3) (pa_cons (pe_op op_sub (pv 4) pe_int) pa_nil))))))) (C8.pe_c ih hr (by omega) (by rfl) (pa_cons (pv 0) (pa_cons pe_str (pa_cons (pv 2) (pa_cons (pv 3) (pa_cons (pe_op op_sub (pv 4) pe_int) pa_nil))))))))))
        pss_nil)
      (pss_cons (ps_if (pt_cmpR op_eq (pe_ix ix_tup (pv 1) pe_int (fun _ _ => rfl)) pe_str (nomark _))
        (pss_cons (ps_set (i := 7) scExp.nd rfl (Or.inl rfl) (C8.pe_c ih hr (by omega) (by rfl) (pa_cons (pv 0) (pa_cons (pe_ix ix_tup (pv 1) pe_int (fun _ _ => rfl)) (pa_cons (pv 2) (pa_cons (pv 3) (pa_cons (pe_op op_sub (pv 4) pe_int) pa_nil)))))))
        (pss_one (ps_ret (pe_op op_cat (pe_op op_cat (pe_lst (pa_cons pe_str pa_nil)) (pv 7)) (C8.pe_c ih hr (by omega) (by rfl) (pa_cons (pv 0) (pa_cons (pe_ix ix_tup (pv 1) pe_int (fun _ _ => rfl)) (pa_cons (pv 2) (pa_cons (pv 3) (pa_cons (pe_op op_sub (pv 4) pe_int) pa_nil))))))))))
        pss_nil)
      (pss_cons (ps_set (i := 8) scExp.nd rfl (Or.inl rfl) (C8.pe_c cF hr (by omega) (by rfl) (pa_cons (pv 0) pa_nil)))
      (pss_one (ps_ret (pe_op op_cat (pe_lst (pa_cons pe_str (pa_cons (pv 8) pa_nil))) (C8.pe_c ih hr (by omega) (by rfl) (pa_cons (pv 0) (pa_cons (pe_ix ix_tup (pv 1) pe_int (fun _ _ => rfl)) (pa_cons (C8.pe_c cW hr (by omega) (by rfl) (pa_cons (pv 2) (pa_cons (pv 8) (pa_cons (pe_ix ix_tup (pv 1) pe_int (fun _ _ => rfl)) pa_nil)))) (pa_cons (pv 3) (pa_cons (pe_op op_sub (pv 4) pe_int) pa_nil)))))))))))))))))), ?_⟩
    refine q_ifR ⟨_, rfl, rfl, _, rfl, ?_⟩
    dsimp only
    have cl10 : costL 10 = 3069 := by decide +kernel
    have ll10 : lenL 10 = 2046 := by decide +kernel
    by_cases h0 : e = 0
    · subst h0
      have hc0 : costE 0 = costL 10 := rfl
      have hl0 : lenE 0 = lenL 10 := rfl
      rw [if_pos (by decide)]
      exact r_ret (r_leafc (ea_cons (ev_var rfl) (ea_cons (ev_var rfl) (ea_cons (ev_var rfl) (ea_cons (ev_var rfl) ea_nil)))) (k := k) (by omega) (by decide) hp (by omega) hv ha ha2 (by omega) hm hap hap2 fun q ws c' H' k1 hp' hc' hq hqp ho hl => kk q ws c' H' k1 hp' (by omega) hq (ho.mono (fun _ h => h) (fun _ h => h) (by omega)) (by omega))
    rw [if_neg (by rw [decide_eq_true_eq]; intro z; injection z with z; omega)]
    obtain ⟨g, rfl⟩ : ∃ g, e = g + 1 := ⟨e - 1, by omega⟩
    have hcE : costE (g + 1) = 20 + costL 10 + 3 * costE g := rfl
    have hlE : lenE (g + 1) = 2 + lenL 10 + 3 * lenE g := rfl
    have hlg := lenE_le (e := g) (by omega)
    have hk1 : costK 1 = 3 := by decide
    have hk2 : costK 2 = 7 := by decide
    refine q_set (r_take (u := 8) (ea_cons (ev_var rfl) (ea_cons ev_c ea_nil)) (by decide) (by decide) hp (by omega) fun r c1 G hr8 k1 hp1 hc1 => ?_)
    have hvG := hv.keep hp k1
    have haG := ha.keep hp k1 hap
    have ha2G := ha2.keep hp k1 hap2
    refine q_ifR ⟨_, rfl, rfl, _, rfl, ?_⟩
    dsimp only
    by_cases r0 : r = 0
    · subst r0
      rw [if_pos (by decide)]
      exact r_ret (r_leafc (ea_cons (ev_var rfl) (ea_cons (ev_var rfl) (ea_cons (ev_var rfl) (ea_cons (ev_var rfl) ea_nil)))) (k := k) (by omega) (by decide) hp1 (by omega) hvG haG ha2G (by omega) hm hap hap2 fun q ws c' H' k2 hp' hc' hq hqp ho hl => kk q ws c' H' (k1.trans k2) hp' (by omega) hq (ho.mono (fun _ h => h) (fun _ h => h) (by omega)) (by omega))
    rw [if_neg (by rw [decide_eq_true_eq]; intro z; injection z with z; omega)]
    refine q_ifR ⟨_, rfl, _, _, rfl, rfl, _, rfl, ?_⟩
    dsimp only
    by_cases r3 : r < 3
    · rw [if_pos (by rw [decide_eq_true_eq]; omega)]
      refine q_set (r_kind (e := 1) (ea_cons (ev_var rfl) (ea_cons ev_c ea_nil)) rfl hp1 (by omega) fun vo ko c2 G2 k2 hp2 hc2 hvo hko => ?_)
      have k12 := k1.trans k2
      refine q_dw (dw_exprT (e := g) (k := .f ko k) rfl rfl rfl (ea_cons (ev_var rfl) (ea_cons (ev_var rfl) (ea_cons (sub_one rfl) ea_nil))) (fun t H1 e1 ht => ⟨t, _, _, rfl, ht, hvo.ex e1, (hv.keep hp k12).ex e1⟩) rfl (by omega) (by simp only [Kd.dep]; omega) hp2 (by omega) (ha.keep hp k12 hap) (ha2.keep hp k12 hap2) (by omega) hm hap hap2) fun q1 w1 c3 G3 k3 hp3 ⟨hc3, ho1, hl1⟩ hq1 n1 => ?_
      have k123 := k12.trans k3
      refine r_ret (dw_cat (dw_cat (dw_lit hp3 (ew1 (x := CALL) (by decide))) (fun c4 w4 G4 k4 hp4 _ => dw_var hp4 rfl (k4 _ _ n1 hq1)) (fun c4 w4 c5 w5 h4 h5 => by rw [h4.2, h5.2]; show 1 + w1.length ≤ _; omega)) (fun c4 w4 G4 k4 hp4 h4 => dw_expr (v := vo) (k := ko) (c := c4) (e := g) (ea_cons (ev_var rfl) (ea_cons (ev_var rfl) (ea_cons (ev_var rfl) (ea_cons (ev_var rfl) (ea_cons (sub_one rfl) ea_nil))))) rfl (by omega) (by omega) hp4 (by obtain ⟨_, _, _, ⟨rfl, _⟩, ⟨rfl, _⟩, _⟩ := h4; omega) (hvo.keep hp2 (k3.trans k4)) (ha.keep hp (k123.trans k4) hap) (ha2.keep hp (k123.trans k4) hap2) (by omega) hm hap hap2) (fun c4 w4 c5 w5 h4 h5 => ?_) _ fun q ws c' H' k5 hp5 hR hq hne => ?_)
      · obtain ⟨_, _, _, ⟨rfl, rfl⟩, ⟨rfl, rfl⟩, rfl⟩ := h4
        have := h5.2.2; simp; omega
      · obtain ⟨_, _, w2, ⟨_, _, _, ⟨rfl, rfl⟩, ⟨rfl, rfl⟩, rfl⟩, ⟨hc5, ho2, hl2⟩, rfl⟩ := hR
        exact kk q _ c' H' (k123.trans k5) hp5 (by omega) hq ((out_bi (s := CALL) (by decide) (by decide) ho1 ho2).mono (fun _ h => h) (fun _ h => h) (by omega)) (by simp; omega)
    rw [if_neg (by rw [decide_eq_true_eq]; omega)]
    refine q_ifR ⟨_, rfl, rfl, _, rfl, ?_⟩
    dsimp only
    by_cases r3' : r = 3
    · subst r3'
      rw [if_pos (by decide)]
      refine q_par (r_cons (r_kind (e := 2) (ea_cons (ev_var rfl) (ea_cons ev_c ea_nil)) rfl hp1 (by omega) fun vo ko c2 G2 k2 hp2 hc2 hvo hko => r_cons (r_fresh (ea_cons (ev_var rfl) ea_nil) hp2 (by omega) fun z c3 G3 hz k3 hp3 hc3 => ⟨_, _, rfl, ?_⟩)))
      have k13 := (k1.trans k2).trans k3
      refine q_dw (dw_expr (v := vo) (k := ko) (c := c3) (e := g) (ea_cons (ev_var rfl) (ea_cons (ev_var rfl) (ea_cons (ev_var rfl) (ea_cons (ev_var rfl) (ea_cons (sub_one rfl) ea_nil))))) rfl (by omega) (by omega) hp3 (by omega) (hvo.keep hp2 k3) (ha.keep hp k13 hap) (ha2.keep hp k13 hap2) (by omega) hm hap hap2) fun q1 w1 c4 G4 k4 hp4 ⟨hc4, ho1, hl1⟩ hq1 n1 => ?_
      have k14 := k13.trans k4
      refine r_ret (dw_cat (dw_cat (dw_lit hp4 (ew2 (x := LETW) (y := z) (by decide) rfl)) (fun c5 w5 G5 k5 hp5 _ => dw_var hp5 rfl (k5 _ _ n1 hq1)) (fun c5 w5 c6 w6 h5 h6 => by rw [h5.2, h6.2]; show 2 + w1.length ≤ _; omega))
        (fun c5 w5 G5 k5 hp5 h5 => dw_exprW (v := v) (k := k) (kx := ko) (x := z) (u := vo) (c := c5) (e := g) rfl (ev_var rfl) (ea_cons (ev_var rfl) (ea_cons (ev_var rfl) (ea_cons (ev_var rfl) ea_nil))) (ev_var rfl) (sub_one rfl) hz (hvo.keep hp2 ((k3.trans k4).trans k5)) (by omega) rfl (by omega) (by omega) hp5 (by obtain ⟨_, _, _, ⟨rfl, _⟩, ⟨rfl, _⟩, _⟩ := h5; omega) (hv.keep hp (k14.trans k5)) (ha.keep hp (k14.trans k5) hap) (ha2.keep hp (k14.trans k5) hap2) (by omega) hm hap hap2) (fun c5 w5 c6 w6 h5 h6 => ?_) _ fun q ws c' H' k5 hp5 hR hq hne => ?_)
      · obtain ⟨_, _, _, ⟨rfl, rfl⟩, ⟨rfl, rfl⟩, rfl⟩ := h5
        have := h6.2.2; simp; omega
      · obtain ⟨_, _, w2, ⟨_, _, _, ⟨rfl, rfl⟩, ⟨rfl, rfl⟩, rfl⟩, ⟨hc5, ho2, hl2⟩, rfl⟩ := hR
        exact kk q _ c' H' (k14.trans k5) hp5 (by omega) hq ((out_let hz ho1 ho2).mono (fun _ h => h) (fun _ h => h) (by omega)) (by simp; omega)
    rw [if_neg (by rw [decide_eq_true_eq]; intro z; injection z with z; omega)]
    refine q_ifR ⟨_, rfl, rfl, _, rfl, ?_⟩
    dsimp only
    by_cases r4 : r = 4
    · subst r4
      rw [if_pos (by decide)]
      refine q_dw (dw_expr (v := .str (Str.ofString "n")) (k := .n) (c := c1) (e := g) (ea_cons (ev_var rfl) (ea_cons ev_c (ea_cons (ev_var rfl) (ea_cons (ev_var rfl) (ea_cons (sub_one rfl) ea_nil))))) rfl (by omega) (by show 0 + g ≤ 9; omega) hp1 (by omega) rfl haG ha2G (by omega) hm hap hap2) fun q1 w1 c2 G2 k2 hp2 ⟨hc2, ho1, hl1⟩ hq1 n1 => ?_
      have k12 := k1.trans k2
      refine q_dw (dw_cat (dw_expr (v := v) (k := k) (c := c2) (e := g) (ea_cons (ev_var rfl) (ea_cons (ev_var rfl) (ea_cons (ev_var rfl) (ea_cons (ev_var rfl) (ea_cons (sub_one rfl) ea_nil))))) rfl (by omega) (by omega) hp2 (by omega) (hv.keep hp k12) (ha.keep hp k12 hap) (ha2.keep hp k12 hap2) (by omega) hm hap hap2)
        (fun c3 w3 G3 k3 hp3 h3 => dw_expr (v := v) (k := k) (c := c3) (e := g) (ea_cons (ev_var rfl) (ea_cons (ev_var rfl) (ea_cons (ev_var rfl) (ea_cons (ev_var rfl) (ea_cons (sub_one rfl) ea_nil))))) rfl (by omega) (by omega) hp3 (by have := h3.1; omega) (hv.keep hp (k12.trans k3)) (ha.keep hp (k12.trans k3) hap) (ha2.keep hp (k12.trans k3) hap2) (by omega) hm hap hap2) (fun c3 w3 c4 w4 h3 h4 => by have := h3.2.2; have := h4.2.2; omega)) fun q2 w23 c4 G4 k4 hp4 hR hq2 n2 => ?_
      obtain ⟨c3, w2, w3, ⟨hc3, ho2, hl2⟩, ⟨hc4, ho3, hl3⟩, rfl⟩ := hR
      refine r_ret (dw_cat (dw_cat (dw_lit hp4 (ew1 (x := PICK) (by decide))) (fun c5 w5 G5 k5 hp5 _ => dw_var hp5 rfl (k5 _ _ n1 (k4 _ _ n1 hq1))) (fun c5 w5 c6 w6 h5 h6 => by rw [h5.2, h6.2]; show 1 + w1.length ≤ _; omega)) (fun c5 w5 G5 k5 hp5 _ => dw_var hp5 rfl (k5 _ _ n2 hq2)) (fun c5 w5 c6 w6 h5 h6 => ?_) _ fun q ws c' H' k5 hp5 hR hq hne => ?_)
      · obtain ⟨_, _, _, ⟨rfl, rfl⟩, ⟨rfl, rfl⟩, rfl⟩ := h5
        rw [h6.2]; simp; omega
      · obtain ⟨_, _, _, ⟨_, _, _, ⟨rfl, rfl⟩, ⟨rfl, rfl⟩, rfl⟩, ⟨rfl, rfl⟩, rfl⟩ := hR
        exact kk q _ c' H' ((k12.trans k4).trans k5) hp5 (by omega) hq ((out_tri (s := PICK) (by decide) (by decide) ho1 ho2 ho3).mono (fun _ h => h) (fun _ h => h) (by omega)) (by simp; omega)
    rw [if_neg (by rw [decide_eq_true_eq]; intro z; injection z with z; omega)]
    refine q_ifR ⟨_, rfl, rfl, _, rfl, ?_⟩
    dsimp only
    by_cases r5 : r = 5
    · subst r5
      rw [if_pos (by decide)]
      refine q_set (r_kind (e := 1) (ea_cons (ev_var rfl) (ea_cons ev_c ea_nil)) rfl hp1 (by omega) fun vo ko c2 G2 k2 hp2 hc2 hvo hko => ?_)
      have k12 := k1.trans k2
      refine q_set (r_op (r_lst2 (r_kdF rfl rfl fun t1 G3 e3 _ h3 => r_kdF rfl rfl fun t2 G4 e4 _ h4 => ⟨two_le, fun l hl => ?_⟩)))
      have e5 : Ex G4 (upd G4 l (.lst [.ref t1, .ref t2])) := ex_put hl (Ex.refl G4)
      have hl5 : (upd G4 l (.lst [.ref t1, .ref t2])) l = some (.lst [.ref t1, .ref t2]) := upd_same
      have lp : l ≠ p := pot_ne ((hp2.ex e3).ex e4) hl
      have h35 := e5 _ _ (e4 _ _ h3)
      have h45 := e5 _ _ h4
      generalize upd G4 l (.lst [.ref t1, .ref t2]) = G5 at e5 hl5 h35 h45 ⊢
      have e25 := (e3.trans e4).trans e5
      have hp5 := hp2.ex e25
      refine r_take (u := 2) (ea_cons (ev_var rfl) (ea_cons ev_c ea_nil)) (by decide) (by decide) hp5 (by omega) fun r2 c3 G6 hr2 k6 hp6 hc3 => ?_
      have k16 : Kp p H G6 := (k12.ex e25).trans k6
      have hv6 := hv.keep hp k16
      have hvo6 := hvo.keep hp2 ((Keep.of e25).trans k6)
      obtain ⟨tp, y1, ky1, kp, hix, htp, hy1, hy1d, hkp, hkpd⟩ : ∃ (tp : Addr) (y1 : V) (ky1 kp : Kd), ([V.ref t1, .ref t2])[r2]? = some (.ref tp) ∧ (∃ y2, G6 tp = some (.tup [.str (Str.ofString "p"), y1, y2])) ∧ KdAt G6 y1 ky1 ∧ ky1.dep ≤ 9 ∧ KdAt G6 (.ref tp) kp ∧ kp.dep + g ≤ 9 := by
        obtain h | h : r2 = 0 ∨ r2 = 1 := by omega
        all_goals subst h
        · exact ⟨t1, v, k, .p k ko, rfl, ⟨_, pot_tup hp5 k6 _ _ h35⟩, hv6, by omega, ⟨t1, _, _, rfl, pot_tup hp5 k6 _ _ h35, hv6, hvo6⟩, by simp only [Kd.dep]; omega⟩
        · exact ⟨t2, vo, ko, .p ko k, rfl, ⟨_, pot_tup hp5 k6 _ _ h45⟩, hvo6, by omega, ⟨t2, _, _, rfl, pot_tup hp5 k6 _ _ h45, hvo6, hv6⟩, by simp only [Kd.dep]; omega⟩
      refine ⟨l, _, r2, _, rfl, rfl, sq_of (k6 _ _ lp hl5), atI_nat hix, ?_⟩
      obtain ⟨y2, htp⟩ := htp
      have IX : ∃ s : Wd, (ari s = some 1 ∧ isBind s = false) ∧ Ev (tOp (rIxL K) (tLst (tCons (tC (.str (Str.ofString "first"))) (tCons (tC (.str (Str.ofString "second"))) tNil))) (tCB (fun xs H Q => (∃ i, xs = [V.int i] ∧ Q (V.int i) H) ∨ ∃ k, xs = [V.bl k] ∧ Q (V.int (if k = true then 1 else 0)) H) (tCons (tOp (rNeD K) (tOp (rIxT K) (tVar 10) (tC (.int 1))) (tVar 1)) tNil)))
          ([some (.ref p), some v, some (.ref a), some (.ref a2), some (.int ((g + 1 : Nat) : Int)), some (.int ((5 : Nat) : Int)), some vo, none, none, none, some (.ref tp), none] : L2.St) G6 (.str (S s)) := by
        have hb : Ev (tOp (rNeD K) (tOp (rIxT K) (tVar 10) (tC (.int 1))) (tVar 1)) ([some (.ref p), some v, some (.ref a), some (.ref a2), some (.int ((g + 1 : Nat) : Int)), some (.int ((5 : Nat) : Int)), some vo, none, none, none, some (.ref tp), none] : L2.St) G6 (.bl !(PyData.eqv (kdD ky1) (kdD k))) := fun H1 e Q q =>
          ⟨_, rfl, tp, _, 1, y1, rfl, rfl, st_of (e _ _ htp), rfl, v, rfl, _, _, (hy1.ex e).dp, (hv6.ex e).dp, kdD_shaped (by omega), kdD_shaped (by omega), q H1 (Ex.refl H1)⟩
        have hl : EvL (tLst (tCons (tC (.str (Str.ofString "first"))) (tCons (tC (.str (Str.ofString "second"))) tNil))) ([some (.ref p), some v, some (.ref a), some (.ref a2), some (.int ((g + 1 : Nat) : Int)), some (.int ((5 : Nat) : Int)), some vo, none, none, none, some (.ref tp), none] : L2.St) G6 [.str (S [102, 105, 114, 115, 116]), .str (S [115, 101, 99, 111, 110, 100])] := by
          rw [show (Str.ofString "first" : Str) = S [102, 105, 114, 115, 116] from by decide, show (Str.ofString "second" : Str) = S [115, 101, 99, 111, 110, 100] from by decide]
          exact el_lst (ea_cons ev_c (ea_cons ev_c ea_nil)) (by show 2 ≤ 100000; decide)
        generalize (!(PyData.eqv (kdD ky1) (kdD k))) = bb at hb
        cases bb with
        | true => exact ⟨[115, 101, 99, 111, 110, 100], by decide, ev_ixL (n := 1) hl (ev_is (ev_intB hb) rfl) rfl⟩
        | false => exact ⟨[102, 105, 114, 115, 116], by decide, ev_ixL (n := 0) hl (ev_is (ev_intB hb) rfl) rfl⟩
      obtain ⟨s1, ⟨hs1, hs2⟩, IX⟩ := IX
      refine r_ret (dw_cat (dw_lit (w0 := [s1]) hp6 (el_lst (ea_cons IX ea_nil) (by show 1 ≤ 100000; decide))) (fun c4 w4 G7 k7 hp7 h4 => dw_expr (v := .ref tp) (k := kp) (c := c4) (e := g) (ea_cons (ev_var rfl) (ea_cons (ev_var rfl) (ea_cons (ev_var rfl) (ea_cons (ev_var rfl) (ea_cons (sub_one rfl) ea_nil))))) rfl (by omega) hkpd hp7 (by have := h4.1; omega) (hkp.keep hp6 k7) (ha.keep hp (k16.trans k7) hap) (ha2.keep hp (k16.trans k7) hap2) (by omega) hm hap hap2)
        (fun c4 w4 c5 w5 h4 h5 => by rw [h4.2]; have := h5.2.2; show 1 + w5.length ≤ _; omega) _ fun q ws c' H' k7 hp7 hR hq hne => ?_)
      obtain ⟨_, _, w2, ⟨rfl, rfl⟩, ⟨hc5, ho2, hl2⟩, rfl⟩ := hR
      exact kk q _ c' H' (k16.trans k7) hp7 (by omega) hq ((out_un hs1 hs2 ho2).mono (fun _ h => h) (fun _ h => h) (by omega)) (by simp; omega)
    rw [if_neg (by rw [decide_eq_true_eq]; intro z; injection z with z; omega)]
    refine q_ifR ⟨v, rfl, _, _, hvG.dp, .str _, kdD_shaped (by omega), by decide +kernel, _, rfl, ?_⟩
    cases k with
    | n =>
      rw [if_pos (by decide +kernel)]
      refine q_set (r_callVL (ev_var rfl) (el_lst (ea_cons ev_c (ea_cons ev_c (ea_cons ev_c ea_nil))) (by show 3 ≤ 100000; decide)) fun t H5 ht e5 hx => ⟨p, t, c1, _, rfl, hp1.ex e5, by omega, hx, by show 0 < 3; decide, by show 3 ≤ 1000; decide, pot_ne hp1 ht, fun x c2 G2 hx k2 hp2 hc2 => ?_⟩)
      obtain ⟨s1, rfl, hs1, hs2⟩ : ∃ s : Wd, x = .str (S s) ∧ ari s = some 2 ∧ isBind s = false := by
        simp only [List.mem_cons, List.not_mem_nil, or_false] at hx
        rcases hx with rfl | rfl | rfl
        · exact ⟨[112, 108, 117, 115], by decide, by decide, by decide⟩
        · exact ⟨[112, 108, 117, 115], by decide, by decide, by decide⟩
        · exact ⟨[108, 101, 115, 115], by decide, by decide, by decide⟩
      have k12 : Kp p H G2 := k1.trans (Kp.pre e5 k2)
      refine r_ret (dw_cat (dw_cat (dw_lit hp2 (ewv (y := s1) rfl)) (fun c3 w3 G3 k3 hp3 h3 => dw_expr (v := .str (Str.ofString "n")) (k := .n) (c := c3) (e := g) (ea_cons (ev_var rfl) (ea_cons ev_c (ea_cons (ev_var rfl) (ea_cons (ev_var rfl) (ea_cons (sub_one rfl) ea_nil))))) rfl (by omega) (by show 0 + g ≤ 9; omega) hp3 (by have := h3.1; omega) rfl (ha.keep hp (k12.trans k3) hap) (ha2.keep hp (k12.trans k3) hap2) (by omega) hm hap hap2) (fun c3 w3 c4 w4 h3 h4 => by rw [h3.2]; have := h4.2.2; show 1 + w4.length ≤ _; omega))
        (fun c3 w3 G3 k3 hp3 h3 => dw_expr (v := .str (Str.ofString "n")) (k := .n) (c := c3) (e := g) (ea_cons (ev_var rfl) (ea_cons ev_c (ea_cons (ev_var rfl) (ea_cons (ev_var rfl) (ea_cons (sub_one rfl) ea_nil))))) rfl (by omega) (by show 0 + g ≤ 9; omega) hp3 (by obtain ⟨_, _, _, ⟨rfl, _⟩, ⟨h, _⟩, _⟩ := h3; omega) rfl (ha.keep hp (k12.trans k3) hap) (ha2.keep hp (k12.trans k3) hap2) (by omega) hm hap hap2) (fun c3 w3 c4 w4 h3 h4 => ?_) _ fun q ws c' H' k5 hp5 hR hq hne => ?_)
      · obtain ⟨_, _, _, ⟨rfl, rfl⟩, ⟨_, _, h5⟩, rfl⟩ := h3
        have := h4.2.2; simp; omega
      · obtain ⟨_, _, w2, ⟨_, _, w1, ⟨rfl, rfl⟩, ⟨hc4, ho1, hl1⟩, rfl⟩, ⟨hc5, ho2, hl2⟩, rfl⟩ := hR
        exact kk q _ c' H' (k12.trans k5) hp5 (by omega) hq ((out_bi hs1 hs2 ho1 ho2).mono (fun _ h => h) (fun _ h => h) (by omega)) (by simp; omega)
    | f ka kb =>
      rw [if_neg (by simp [kdD, PyData.eqv])]
      simp only [Kd.dep] at hke
      obtain ⟨t, x, y, rfl, ht, hx, hy⟩ := hvG
      refine q_ifR ⟨_, rfl, t, _, 0, _, rfl, rfl, st_of ht, rfl, rfl, _, rfl, ?_⟩
      dsimp only
      rw [if_neg (by decide +kernel)]
      refine q_set (r_fresh (ea_cons (ev_var rfl) ea_nil) hp1 (by omega) fun z c2 G2 hz k2 hp2 hc2 => ?_)
      have k12 := k1.trans k2
      refine r_ret (dw_cat (dw_lit hp2 (ew2 (x := FUN) (y := z) (by decide) rfl)) (fun c3 w3 G3 k3 hp3 h3 => dw_exprW (v := y) (k := kb) (kx := ka) (x := z) (u := x) (c := c3) (e := g) rfl (ev_ixT (K := K) (n := 2) rfl (pot_tup hp1 (k2.trans k3) _ _ ht) rfl) (ea_cons (ev_var rfl) (ea_cons (ev_var rfl) (ea_cons (ev_ixT (K := K) (n := 1) rfl (pot_tup hp1 (k2.trans k3) _ _ ht) rfl) ea_nil))) (ev_var rfl) (sub_one rfl) hz (hx.keep hp1 (k2.trans k3)) (by omega) rfl (by omega) (by omega) hp3 (by have := h3.1; omega) (hy.keep hp1 (k2.trans k3)) (ha.keep hp (k12.trans k3) hap) (ha2.keep hp (k12.trans k3) hap2) (by omega) hm hap hap2)
        (fun c3 w3 c4 w4 h3 h4 => by rw [h3.2]; have := h4.2.2; show 2 + w4.length ≤ _; omega) _ fun q ws c' H' k5 hp5 hR hq hne => ?_)
      obtain ⟨_, _, w2, ⟨rfl, rfl⟩, ⟨hc5, ho2, hl2⟩, rfl⟩ := hR
      exact kk q _ c' H' (k12.trans k5) hp5 (by omega) hq ((out_fun hz ho2).mono (fun _ h => h) (fun _ h => h) (by omega)) (by simp; omega)
    | p ka kb =>
      rw [if_neg (by simp [kdD, PyData.eqv])]
      simp only [Kd.dep] at hke
      obtain ⟨t, x, y, rfl, ht, hx, hy⟩ := hvG
      refine q_ifR ⟨_, rfl, t, _, 0, _, rfl, rfl, st_of ht, rfl, rfl, _, rfl, ?_⟩
      dsimp only
      rw [if_pos (by decide +kernel)]
      refine q_dw (dw_expr (v := x) (k := ka) (c := c1) (e := g) (ea_cons (ev_var rfl) (ea_cons (ev_ixT (K := K) (n := 1) rfl ht rfl) (ea_cons (ev_var rfl) (ea_cons (ev_var rfl) (ea_cons (sub_one rfl) ea_nil))))) rfl (by omega) (by omega) hp1 (by omega) hx haG ha2G (by omega) hm hap hap2) fun q1 w1 c2 G2 k2 hp2 ⟨hc2, ho1, hl1⟩ hq1 n1 => ?_
      have k12 := k1.trans k2
      refine r_ret (dw_cat (dw_cat (dw_lit hp2 (ew1 (x := PAIR) (by decide))) (fun c4 w4 G4 k4 hp4 _ => dw_var hp4 rfl (k4 _ _ n1 hq1)) (fun c4 w4 c5 w5 h4 h5 => by rw [h4.2, h5.2]; show 1 + w1.length ≤ _; omega))
        (fun c4 w4 G4 k4 hp4 h4 => dw_expr (v := y) (k := kb) (c := c4) (e := g) (ea_cons (ev_var rfl) (ea_cons (ev_ixT (K := K) (n := 2) rfl (pot_tup hp1 (k2.trans k4) _ _ ht) rfl) (ea_cons (ev_var rfl) (ea_cons (ev_var rfl) (ea_cons (sub_one rfl) ea_nil))))) rfl (by omega) (by omega) hp4 (by obtain ⟨_, _, _, ⟨rfl, _⟩, ⟨rfl, _⟩, _⟩ := h4; omega) (hy.keep hp1 (k2.trans k4)) (ha.keep hp (k12.trans k4) hap) (ha2.keep hp (k12.trans k4) hap2) (by omega) hm hap hap2) (fun c4 w4 c5 w5 h4 h5 => ?_) _ fun q ws c' H' k5 hp5 hR hq hne => ?_)
      · obtain ⟨_, _, _, ⟨rfl, rfl⟩, ⟨rfl, rfl⟩, rfl⟩ := h4
        have := h5.2.2; simp; omega
      · obtain ⟨_, _, w2, ⟨_, _, _, ⟨rfl, rfl⟩, ⟨rfl, rfl⟩, rfl⟩, ⟨hc5, ho2, hl2⟩, rfl⟩ := hR
        exact kk q _ c' H' (k12.trans k5) hp5 (by omega) hq ((out_bi (s := PAIR) (by decide) (by decide) ho1 ho2).mono (fun _ h => h) (fun _ h => h) (by omega)) (by simp; omega)
end
end K5
set_option Elab.async false
set_option linter.all false
set_option maxRecDepth 100000
set_option maxHeartbeats 4000000
namespace K5
open PySem PySem.Spec PyProof.Rows L2 Evl Xl SX Mi
abbrev PLUSW : Wd := [112, 108, 117, 115]
abbrev N0 : Wd := [110, 48]
abbrev R0 : Wd := [114, 48]
abbrev Q0 : Wd := [113, 48]
abbrev FIRSTW : Wd := [102, 105, 114, 115, 116]
abbrev SECONDW : Wd := [115, 101, 99, 111, 110, 100]
def againW (x : Wd) : List Wd := [CALL, x, PLUSW, N0, [45, 49]]
/-- an expression that has a list of words and draws nothing -/
def EvW (te : TE) (σ : L2.St) (H : Hp) (ws : List Wd) : Prop := ∀ H1, Ex H H1 → ∀ Q : VK, (∀ (q : Addr) (H2 : Hp), Ex H1 H2 → H2 q = some (.lst (wV ws)) → Q (.ref q) H2) → te σ H1 Q
theorem EvW.lst {te : TE} {σ : L2.St} {H : Hp} {ws : List Wd} (h : EvL te σ H (wV ws)) : EvW te σ H ws := fun H1 e Q k => h H1 e _ fun q H2 _ e2 hx => k q H2 e2 hx
theorem EvW.var {i : Nat} {q : Addr} {σ : L2.St} {H : Hp} {ws : List Wd} (h : σ[i]? = some (some (.ref q))) (hq : H q = some (.lst (wV ws))) : EvW (tVar i) σ H ws := fun H1 e Q k => ⟨_, h, k q H1 (Ex.refl H1) (e _ _ hq)⟩
theorem EvW.ex {te : TE} {σ : L2.St} {H H' : Hp} {ws : List Wd} (h : EvW te σ H ws) (e : Ex H H') : EvW te σ H' ws := fun H1 e1 => h H1 (e.trans e1)
theorem EvW.cat {ta tb : TE} {σ : L2.St} {H : Hp} {w1 w2 : List Wd} (ha : EvW ta σ H w1) (hb : EvW tb σ H w2) (hl : w1.length + w2.length ≤ 16000000) : EvW (tOp rCat ta tb) σ H (w1 ++ w2) := fun H1 e Q k =>
  ha H1 e _ fun q1 H2 e2 h1 => hb H2 (e.trans e2) _ fun q2 H3 e3 h2 => r_catW (e3 _ _ h1) h2 hl fun q3 H4 e4 _ h4 => k q3 H4 ((e2.trans e3).trans e4) h4
theorem q_evw {te : TE} {σ : L2.St} {G : Hp} {ws : List Wd} {D : Ends} {tz : TS} {i : Nat} (h : EvW te σ G ws) (k : ∀ (q : Addr) (H' : Hp), Ex G H' → H' q = some (.lst (wV ws)) → tz D (σ.set i (some (.ref q))) H') : tSeq (tAsg te (gName i)) tz D σ G := q_set (h G (Ex.refl G) _ k)
section
variable {Ps : List Wd} {x : Wd}
theorem _root_.Mi.Out.up {B P : List Wd} {d d' : Nat} {ws : List Wd} (h : Out B P d ws) (hd : d ≤ d') : Out B P d' ws := h.mono (fun _ h => h) (fun _ h => h) hd
theorem _root_.Mi.Out.inn {B P : List Wd} {d : Nat} {ws : List Wd} {z : Wd} (h : Out B P d ws) : Out (z :: B) P d ws := h.mono (fun _ h => List.mem_cons_of_mem _ h) (fun _ h => h) (Nat.le_refl _)
theorem out_n0 {P : List Wd} : Out [N0] P 1 [N0] := out_name (by decide) (Or.inl (by decide))
theorem out_again (hx : okFree x = true) : Out [N0] (x :: Ps) 3 (againW x) := by
  have h1 : Out [N0] (x :: Ps) 2 [x] := (out_name hx (Or.inr (List.mem_cons_self ..))).mono (fun _ h => h) (fun _ h => h) (by omega)
  have h2 : Out [N0] (x :: Ps) 1 [[45, 49]] := out_num (by decide) (by decide) (by decide) (by decide)
  exact out_bi (s := CALL) (a := [x]) (b := [PLUSW, N0, [45, 49]]) (by decide) (by decide) h1 (out_bi (s := PLUSW) (a := [N0]) (b := [[45, 49]]) (by decide) (by decide) out_n0 h2)
theorem out_more1 (hx : okFree x = true) : Out [N0] (x :: Ps) 6 (PLUSW :: N0 :: againW x) := (out_bi (s := PLUSW) (a := [N0]) (b := againW x) (d := 3) (by decide) (by decide) (out_n0.up (by omega)) (out_again hx)).up (by omega)
theorem out_more2 (hx : okFree x = true) : Out [N0] (x :: Ps) 6 (PLUSW :: (againW x ++ againW x)) := (out_bi (s := PLUSW) (d := 3) (by decide) (by decide) (out_again hx) (out_again hx)).up (by omega)
theorem out_more3 (hx : okFree x = true) : Out [N0] (x :: Ps) 6 (PLUSW :: [49] :: againW x) := (out_bi (s := PLUSW) (a := [[49]]) (b := againW x) (d := 3) (by decide) (by decide) ((out_num (x := [49]) (by decide) (by decide) (by decide) (by decide)).up (by omega)) (out_again hx)).up (by omega)
theorem out_r0 {P : List Wd} : Out [R0, N0] P 1 [R0] := out_name (by decide) (Or.inl (by decide))
theorem out_more4 (hx : okFree x = true) : Out [N0] (x :: Ps) 6 (LETW :: R0 :: (againW x ++ [PLUSW, R0, R0])) :=
  (out_let (n := R0) (d := 3) (by decide) (out_again hx) ((out_bi (s := PLUSW) (a := [R0]) (b := [R0]) (d := 1) (by decide) (by decide) out_r0 out_r0).up (by omega))).up (by omega)
theorem out_more5 (hx : okFree x = true) : Out [N0] (x :: Ps) 6 (LETW :: R0 :: (againW x ++ [PAIR, SECONDW, R0, FIRSTW, R0])) :=
  (out_let (n := R0) (d := 3) (by decide) (out_again hx) (out_bi (s := PAIR) (a := [SECONDW, R0]) (b := [FIRSTW, R0]) (d := 2) (by decide) (by decide) (out_un (d := 1) (by decide) (by decide) out_r0) (out_un (d := 1) (by decide) (by decide) out_r0))).up (by omega)
theorem out_more6 (hx : okFree x = true) : Out [N0] (x :: Ps) 6 (FUN :: Q0 :: CALL :: (againW x ++ [Q0])) :=
  (out_fun (n := Q0) (d := 4) (by decide) (out_bi (s := CALL) (d := 3) (by decide) (by decide) (out_again hx).inn ((out_name (x := Q0) (by decide) (Or.inl (by decide))).up (by omega)))).up (by omega)
end
theorem ev_lit {z : Str} {x : Wd} {σ : L2.St} {H : Hp} (h : z = S x) : Ev (tC (.str z)) σ H (.str (S x)) := h ▸ ev_c
theorem s_set {te : TE} {σ : L2.St} {H : Hp} {D : Ends} {i : Nat} (h : te σ H fun v H1 => D.nx (σ.set i (some v)) H1) : tAsg te (gName i) D σ H := h
theorem q_ifE {t : TT} {tu te tz : TS} {D : Ends} {σ : L2.St} {H : Hp} (h : t σ H fun b H1 => if b = true then tu { nx := tz D, rt := D.rt, bk := D.bk, ct := D.ct } σ H1 else te { nx := tz D, rt := D.rt, bk := D.bk, ct := D.ct } σ H1) : tSeq (tIfS t tu te) tz D σ H := h
theorem r_if {t : TT} {ta tb : TE} {σ : L2.St} {H : Hp} {Q : VK} (h : t σ H fun c H1 => if c = true then ta σ H1 Q else tb σ H1 Q) : tIf t ta tb σ H Q := h
/-- a part that calls itself is drawn -/
def spFall : Sp := fun vs H Q _ => ∃ (p a2 : Addr) (x : Wd) (v : V) (k : Kd) (c m : Nat) (Ps : List Wd), vs = [.ref p, .str (S x), v, .ref a2] ∧ okFree x = true ∧ PotAt p c H ∧ c + costE 1 + 1 ≤ 2000000 ∧ KdAt H v k ∧ k.dep ≤ 1 ∧ NmsAt (PtOk Ps) H a2 m ∧ m ≤ 60 ∧ a2 ≠ p ∧
  ∀ (q : Addr) (ws : List Wd) (c' : Nat) (H' : Hp), Kp p H H' → PotAt p c' H' → c' ≤ c + costE 1 + 1 → H' q = some (.lst (wV (PART :: x :: FUN :: N0 :: ws))) → Out [] (x :: Ps) 20 (FUN :: N0 :: ws) → ws.length ≤ lenE 1 + 30 → Q (.ref q) H'
section
variable {P : Program} {w : World} {K : PySem.W.Frag} {mg : Str → Option Value} {base : Heap} {f : Addr} {fd : FuncData}
abbrev nFa : List Str := ["pot", "name", "kind", "parts", "again", "names", "twice", "more"]
theorem scFa : FnScope nFa ["pot", "name", "kind", "parts"] (C8.fnScope (top 49)) := C8.fnScope_by (by decide +kernel)
theorem ok_fall (F : C8.Def K mg "_law_falling_part" (top 49) f fd) (b : Binds K fd ["pot", "name", "kind", "parts"] []) (T : Txt3 K w mg) (cO : C8.Cal P w K mg base 2 "_law_of" (spOfG K) []) (cE : C8.Cal P w K mg base 17 "_law_expression" (spEx 2) []) : C8.Cal P w K mg base 18 "_law_falling_part" spFall [] := by
  refine C8.cal0 F b .nil scFa (k := 17) (fun vs H Q E h => by obtain ⟨p, a2, x, v, k, c, m, Ps, rfl, _⟩ := h; rfl) (fun cdv A outer s H vs Q E hr h => ?_)
  obtain ⟨p, a2, x, v, k, c, m, Ps, rfl, hx, hp, hc, hv, hkd, ha2, hm, hap2, kk⟩ := h
  refine ⟨_, pss_cons (ps_set (i := 4) scFa.nd rfl (Or.inl rfl) (pe_lst (pa_cons pe_str (pa_cons (pv 1) (pa_cons pe_str (pa_cons pe_str (pa_cons pe_str pa_nil)))))))
    (pss_cons (ps_set (i := 5) scFa.nd rfl (Or.inl rfl) (pe_lst (pa_cons (pe_tup (pa_cons pe_str (pa_cons pe_str pa_nil))) pa_nil)))
    (pss_cons (ps_if (pt_cmpR (op_eqD hr.units) (pv 2) pe_str (nomark _))
      (pss_cons (ps_set (i := 6) scFa.nd rfl (Or.inl rfl) (pe_op op_cat (pe_op op_cat (pe_lst (pa_cons pe_str (pa_cons pe_str pa_nil))) (pv 4)) (pe_lst (pa_cons pe_str (pa_cons pe_str (pa_cons pe_str pa_nil))))))
      (pss_one (ps_set (i := 7) scFa.nd rfl (Or.inl rfl) (C8.pe_c cO hr (by omega) (by rfl) (pa_cons (pv 0) (pa_cons (pe_lst (pa_cons (pe_op op_cat (pe_lst (pa_cons pe_str (pa_cons pe_str pa_nil))) (pv 4)) (pa_cons (pe_op op_cat (pe_op op_cat (pe_lst (pa_cons pe_str pa_nil)) (pv 4)) (pv 4)) (pa_cons (pe_op op_cat (pe_lst (pa_cons pe_str (pa_cons pe_str pa_nil))) (pv 4)) (pa_cons (pv 6) pa_nil))))) pa_nil))))))
      (pss_one (ps_if (pt_cmpR op_eq (pe_ix ix_tup (pv 2) pe_int (fun _ _ => rfl)) pe_str (nomark _))
        (pss_one (ps_set (i := 7) scFa.nd rfl (Or.inl rfl) (pe_ifExp (pt_cmpR (op_eqD hr.units) (pe_ix ix_tup (pv 2) pe_int (fun _ _ => rfl)) (pe_ix ix_tup (pv 2) pe_int (fun _ _ => rfl)) (nomark _)) (pe_op op_cat (pe_op op_cat (pe_lst (pa_cons pe_str (pa_cons pe_str pa_nil))) (pv 4)) (pe_lst (pa_cons pe_str (pa_cons pe_str (pa_cons pe_str (pa_cons pe_str (pa_cons pe_str pa_nil))))))) (pv 4))))
        (pss_one (ps_set (i := 7) scFa.nd rfl (Or.inl rfl) (pe_op op_cat (pe_op op_cat (pe_lst (pa_cons pe_str (pa_cons pe_str (pa_cons pe_str pa_nil)))) (pv 4)) (pe_lst (pa_cons pe_str pa_nil))))))))
    (pss_one (ps_ret (pe_op op_cat (pe_op op_cat (pe_lst (pa_cons pe_str (pa_cons (pv 1) (pa_cons pe_str (pa_cons pe_str (pa_cons pe_str (pa_cons pe_str pa_nil))))))) (C8.pe_c cE hr (by omega) (by rfl) (pa_cons (pv 0) (pa_cons (pv 2) (pa_cons (pv 5) (pa_cons (pv 3) (pa_cons pe_int pa_nil))))))) (pv 7)))))), ?_⟩
  have dep9 : ∀ {n : Nat}, n ≤ 1 → n ≤ 60 := fun h => by omega
  refine q_evw (ws := againW x) (.lst (el_lst (ea_cons (ev_lit (x := CALL) (by decide)) (ea_cons (ev_var rfl) (ea_cons (ev_lit (x := PLUSW) (by decide)) (ea_cons (ev_lit (x := N0) (by decide)) (ea_cons (ev_lit (x := [45, 49]) (by decide)) ea_nil))))) (by show 5 ≤ 100000; decide))) fun qa H1 e1 hqa => ?_
  refine q_set (r_lst1 ⟨two_le, fun t ht l hl => ?_⟩)
  have e2 : Ex H1 (upd H1 t (.tup [.str (Str.ofString "n0"), .str (Str.ofString "n")])) := ex_put ht (Ex.refl H1)
  have ht2 : (upd H1 t (.tup [.str (Str.ofString "n0"), .str (Str.ofString "n")])) t = some (.tup [.str (S N0), .str (Str.ofString "n")]) := by
    rw [show (S N0 : Str) = Str.ofString "n0" from by decide]; exact upd_same
  generalize upd H1 t (.tup [.str (Str.ofString "n0"), .str (Str.ofString "n")]) = H2 at e2 ht2 hl ⊢
  have e3 : Ex H2 (upd H2 l (.lst [.ref t])) := ex_put hl (Ex.refl H2)
  have hl3 : (upd H2 l (.lst [.ref t])) l = some (.lst [.ref t]) := upd_same
  have lp : l ≠ p := pot_ne ((hp.ex e1).ex e2) hl
  generalize upd H2 l (.lst [.ref t]) = H3 at e3 hl3 ⊢
  have e13 := (e1.trans e2).trans e3
  have hp3 := hp.ex e13
  have hN : NmsAt (NmOk [N0] Ps) H3 l 1 := ⟨_, hl3, Nat.le_refl 1, fun y hy => ⟨N0, Or.inl ⟨by decide, by decide⟩, t, _, .n, List.mem_singleton.1 hy, e3 _ _ ht2, rfl, by decide⟩⟩
  have hA3 : H3 qa = some (.lst (wV (againW x))) := (e2.trans e3) _ _ hqa
  have la : (againW x).length = 5 := rfl
  have cE1 : costE 1 = 12296 := by decide +kernel
  have lE1 := lenE_le (e := 1) (by omega)
  have fin : ∀ {σ : L2.St} {G : Hp} {c1 : Nat} {q7 : Addr} {w7 : List Wd}, σ[0]? = some (some (.ref p)) → σ[1]? = some (some (.str (S x))) → σ[2]? = some (some v) → σ[3]? = some (some (.ref a2)) → σ[5]? = some (some (.ref l)) → σ[7]? = some (some (.ref q7)) →
      Kp p H3 G → PotAt p c1 G → c1 ≤ c + 1 → G q7 = some (.lst (wV w7)) → Out [N0] (x :: Ps) 6 w7 → w7.length ≤ 20 →
      (tOp rCat (tOp rCat (tLst (tCons (tC (.str (Str.ofString "part"))) (tCons (tVar 1) (tCons (tC (.str (Str.ofString "fun"))) (tCons (tC (.str (Str.ofString "n0"))) (tCons (tC (.str (Str.ofString "pick"))) (tCons (tC (.str (Str.ofString "n0"))) tNil)))))))
        (tCall (spEx 2) [] C8.E0 (tCons (tVar 0) (tCons (tVar 2) (tCons (tVar 5) (tCons (tVar 3) (tCons (tC (.int 1)) tNil))))))) (tVar 7)) σ G Q := by
    intro σ G c1 q7 w7 s0 s1 s2 s3 s5 s7 kG hpG hcG hq7 ho7 hl7
    have n7 := words_ne hpG hq7
    have kHG : Kp p H G := Kp.pre e13 kG
    refine dw_cat (dw_cat (dw_lit (w0 := [PART, x, FUN, N0, PICK, N0]) hpG (el_lst (ea_cons (ev_lit (x := PART) (by decide)) (ea_cons (ev_var s1) (ea_cons (ev_lit (x := FUN) (by decide)) (ea_cons (ev_lit (x := N0) (by decide)) (ea_cons (ev_lit (x := PICK) (by decide)) (ea_cons (ev_lit (x := N0) (by decide)) ea_nil)))))) (by show 6 ≤ 100000; decide)))
      (fun c4 w4 G4 k4 hp4 h4 => dw_expr (v := v) (k := k) (c := c4) (e := 1) (B := [N0]) (Ps := Ps) (n := 1) (ea_cons (ev_var s0) (ea_cons (ev_var s2) (ea_cons (ev_var s5) (ea_cons (ev_var s3) (ea_cons ev_c ea_nil))))) rfl (by omega) (by omega) hp4 (by have := h4.1; omega) (hv.keep hp (kHG.trans k4)) (hN.keep hp3 (kG.trans k4) lp) (ha2.keep hp (kHG.trans k4) hap2) (by omega) hm lp hap2)
      (fun c4 w4 c5 w5 h4 h5 => by rw [h4.2]; have := h5.2.2; show 6 + w5.length ≤ _; omega)) (R2 := fun c4 w4 c5 w5 => c5 = c4 ∧ w5 = w7) (fun c4 w4 G4 k4 hp4 _ => dw_var hp4 s7 (k4 _ _ n7 hq7)) (fun c4 w4 c5 w5 h4 h5 => ?_) _ fun q ws c' H' k5 hp5 hR hq hne => ?_
    · obtain ⟨_, _, _, ⟨rfl, rfl⟩, ⟨_, _, h6⟩, rfl⟩ := h4
      rw [h5.2]; simp; omega
    · obtain ⟨_, _, w8, ⟨_, _, w1, ⟨rfl, rfl⟩, ⟨hc5, ho1, hl1⟩, rfl⟩, ⟨rfl, rfl⟩, rfl⟩ := hR
      have ho1' : Out [N0] (x :: Ps) 12 w1 := ho1.mono (fun _ h => h) (fun _ h => List.mem_cons_of_mem _ h) (Nat.le_refl _)
      have hq' : H' q = some (.lst (wV (PART :: x :: FUN :: N0 :: PICK :: N0 :: (w1 ++ w8)))) := by rw [hq]; simp
      exact kk q (PICK :: N0 :: (w1 ++ w8)) c' H' (kHG.trans k5) hp5 (by omega) hq' ((out_fun (n := N0) (d := 13) (by decide) (out_tri (s := PICK) (a := [N0]) (b := w1) (c := w8) (d := 12) (by decide) (by decide) (out_n0.up (by omega)) ho1' (ho7.up (by omega)))).up (by omega)) (by simp; omega)
  refine q_ifE ⟨v, rfl, _, _, (hv.ex e13).dp, .str _, kdD_shaped (by omega), by decide +kernel, _, rfl, ?_⟩
  cases k with
  | n =>
    rw [if_pos (by decide +kernel)]
    have l2 : ∀ {σ : L2.St} {G : Hp} {s1 s2 : Str} {z1 z2 : Wd}, s1 = S z1 → s2 = S z2 → EvW (tLst (tCons (tC (.str s1)) (tCons (tC (.str s2)) tNil))) σ G [z1, z2] := fun h1 h2 => .lst (el_lst (ea_cons (ev_lit h1) (ea_cons (ev_lit h2) ea_nil)) (by show 2 ≤ 100000; decide))
    refine q_evw (ws := [LETW, R0] ++ againW x ++ [PLUSW, R0, R0]) (.cat (.cat (l2 (by decide) (by decide)) (.var rfl hA3) (by show 7 ≤ _; omega)) (.lst (el_lst (ea_cons (ev_lit (x := PLUSW) (by decide)) (ea_cons (ev_lit (x := R0) (by decide)) (ea_cons (ev_lit (x := R0) (by decide)) ea_nil))) (by show 3 ≤ 100000; decide))) (by show 10 ≤ _; omega)) fun qt H4 e4 hqt => ?_
    have hA4 := e4 _ _ hA3
    refine s_set ⟨_, rfl, (EvW.cat (w1 := [PLUSW, N0]) (w2 := againW x) (l2 (by decide) (by decide)) (.var rfl hA4) (by show 7 ≤ _; omega) : EvW _ _ H4 _) H4 (Ex.refl H4) _ fun q1 G1 f1 h1 =>
      (EvW.cat (w1 := [PLUSW] ++ againW x) (w2 := againW x) (.cat (w1 := [PLUSW]) (.lst (ew1 (by decide))) (.var rfl (f1 _ _ hA4)) (by show 6 ≤ _; omega)) (.var rfl (f1 _ _ hA4)) (by show 11 ≤ _; omega) : EvW _ _ G1 _) G1 (Ex.refl G1) _ fun q2 G2 f2 h2 =>
      (EvW.cat (w1 := [PLUSW, [49]]) (w2 := againW x) (l2 (by decide) (by decide)) (.var rfl (f2 _ _ (f1 _ _ hA4))) (by show 7 ≤ _; omega) : EvW _ _ G2 _) G2 (Ex.refl G2) _ fun q3 G3 f3 h3 => ⟨_, rfl, by show 4 ≤ sizeLine; rw [sizeLine_eq]; omega, fun l4 hl4 => ?_⟩⟩
    have f4 : Ex G3 (upd G3 l4 (.lst [.ref q1, .ref q2, .ref q3, .ref qt])) := ex_put hl4 (Ex.refl G3)
    have h4 : (upd G3 l4 (.lst [.ref q1, .ref q2, .ref q3, .ref qt])) l4 = some (.lst [.ref q1, .ref q2, .ref q3, .ref qt]) := upd_same
    have g1 := f4 _ _ (f3 _ _ (f2 _ _ h1))
    have g2 := f4 _ _ (f3 _ _ h2)
    have g3 := f4 _ _ h3
    have gt := f4 _ _ (f3 _ _ (f2 _ _ (f1 _ _ hqt)))
    have f14 : Ex H3 (upd G3 l4 (.lst [.ref q1, .ref q2, .ref q3, .ref qt])) := (((e4.trans f1).trans f2).trans f3).trans f4
    have n4 : l4 ≠ p := pot_ne (hp3.ex (((e4.trans f1).trans f2).trans f3)) hl4
    generalize upd G3 l4 (.lst [.ref q1, .ref q2, .ref q3, .ref qt]) = G4 at f14 h4 g1 g2 g3 gt ⊢
    have hp4 := hp3.ex f14
    refine ⟨p, l4, c, _, rfl, hp4, by omega, h4, by show 0 < 4; decide, by show 4 ≤ 1000; decide, n4, fun y c1 G5 hy k5 hp5 hc5 => ?_⟩
    have any : ∃ (q : Addr) (w7 : List Wd), y = .ref q ∧ G5 q = some (.lst (wV w7)) ∧ Out [N0] (x :: Ps) 6 w7 ∧ w7.length ≤ 20 := by
      simp only [List.mem_cons, List.not_mem_nil, or_false] at hy
      rcases hy with rfl | rfl | rfl | rfl
      · exact ⟨q1, _, rfl, k5 _ _ (words_ne hp4 g1) g1, out_more1 hx, by show 7 ≤ 20; decide⟩
      · exact ⟨q2, _, rfl, k5 _ _ (words_ne hp4 g2) g2, out_more2 hx, by show 11 ≤ 20; decide⟩
      · exact ⟨q3, _, rfl, k5 _ _ (words_ne hp4 g3) g3, out_more3 hx, by show 7 ≤ 20; decide⟩
      · exact ⟨qt, _, rfl, k5 _ _ (words_ne hp4 gt) gt, out_more4 hx, by show 10 ≤ 20; decide⟩
    obtain ⟨q7, w7, rfl, b1, b2, b3⟩ := any
    exact fin rfl rfl rfl rfl rfl rfl (Kp.pre f14 k5) hp5 (by omega) b1 b2 b3
  | f ka kb =>
    rw [if_neg (by simp [kdD, PyData.eqv])]
    obtain ⟨t, y1, y2, rfl, ht, hy1, hy2⟩ := hv.ex e13
    refine ⟨_, rfl, t, _, 0, _, rfl, rfl, st_of ht, rfl, rfl, _, rfl, ?_⟩
    dsimp only
    rw [if_neg (by decide +kernel)]
    refine s_set ((EvW.cat (w1 := [FUN, Q0, CALL] ++ againW x) (w2 := [Q0]) (.cat (w1 := [FUN, Q0, CALL]) (.lst (el_lst (ea_cons (ev_lit (x := FUN) (by decide)) (ea_cons (ev_lit (x := Q0) (by decide)) (ea_cons (ev_lit (x := CALL) (by decide)) ea_nil))) (by show 3 ≤ 100000; decide))) (.var rfl hA3) (by show 8 ≤ _; omega)) (.lst (ew1 (by decide))) (by show 9 ≤ _; omega) : EvW _ _ H3 _) H3 (Ex.refl H3) _ fun q7 G1 f1 h1 => ?_)
    exact fin rfl rfl rfl rfl rfl rfl (Keep.of f1) (hp3.ex f1) (by omega) h1 (out_more6 hx) (by show 9 ≤ 20; decide)
  | p ka kb =>
    rw [if_neg (by simp [kdD, PyData.eqv])]
    obtain ⟨t, y1, y2, rfl, ht, hy1, hy2⟩ := hv.ex e13
    simp only [Kd.dep] at hkd
    refine ⟨_, rfl, t, _, 0, _, rfl, rfl, st_of ht, rfl, rfl, _, rfl, ?_⟩
    dsimp only
    rw [if_pos (by decide +kernel)]
    refine s_set (r_if ⟨_, rfl, t, _, 1, _, rfl, rfl, st_of ht, rfl, _, rfl, t, _, 2, _, rfl, rfl, st_of ht, rfl, _, _, hy1.dp, hy2.dp, kdD_shaped (by omega), kdD_shaped (by omega), _, rfl, ?_⟩)
    generalize PyData.eqv (kdD ka) (kdD kb) = bb
    cases bb with
    | true =>
      rw [if_pos rfl]
      refine (EvW.cat (w1 := [LETW, R0] ++ againW x) (w2 := [PAIR, SECONDW, R0, FIRSTW, R0]) (.cat (w1 := [LETW, R0]) (.lst (el_lst (ea_cons (ev_lit (x := LETW) (by decide)) (ea_cons (ev_lit (x := R0) (by decide)) ea_nil)) (by show 2 ≤ 100000; decide))) (.var rfl hA3) (by show 7 ≤ _; omega)) (.lst (el_lst (ea_cons (ev_lit (x := PAIR) (by decide)) (ea_cons (ev_lit (x := SECONDW) (by decide)) (ea_cons (ev_lit (x := R0) (by decide)) (ea_cons (ev_lit (x := FIRSTW) (by decide)) (ea_cons (ev_lit (x := R0) (by decide)) ea_nil))))) (by show 5 ≤ 100000; decide))) (by show 12 ≤ _; omega) : EvW _ _ H3 _) H3 (Ex.refl H3) _ fun q7 G1 f1 h1 => ?_
      exact fin rfl rfl rfl rfl rfl rfl (Keep.of f1) (hp3.ex f1) (by omega) h1 (out_more5 hx) (by show 12 ≤ 20; decide)
    | false =>
      rw [if_neg (by decide)]
      exact ⟨_, rfl, fin rfl rfl rfl rfl rfl rfl (Keep.refl _ _) hp3 (by omega) hA3 ((out_again hx).up (by omega)) (by show 5 ≤ 20; decide)⟩
end
end K5
set_option Elab.async false
set_option linter.all false
set_option maxRecDepth 100000
set_option maxHeartbeats 4000000
namespace K5
open PySem PySem.Spec PyProof.Rows L2 Evl Xl SX Mi
theorem cut_head (c : Nat) (r : Wd) : cutS (S (c :: r)) none (some 1) = S [c] := by
  simp only [cutS, HT.sIx]
  rw [show ({ cps := (c :: r).toArray } : Str).length = r.length + 1 from S_len (c :: r)]
  simp [S]
theorem cut_tail (c : Nat) (r : Wd) : cutS (S (c :: r)) (some 1) none = S r := by
  simp only [cutS, HT.sIx]
  rw [show ({ cps := (c :: r).toArray } : Str).length = r.length + 1 from S_len (c :: r)]
  simp [S]
theorem cut_nil : cutS (S []) none (some 1) = S [] := by decide
theorem fill_two : ∀ {a a' b b' : List Wd}, Fill a a' → Fill b b' → Fill (a ++ b) (a' ++ b') := by
  intro a a' b b' h hb
  induction h with
  | nil => exact hb
  | keep hw t ih => exact .keep hw ih
  | at_ hm t ih => exact .at_ hm ih
theorem _root_.Mi.Fill.len : ∀ {a a' : List Wd}, Fill a a' → a'.length ≤ 3 * a.length := by
  intro a a' h
  induction h with
  | nil => exact Nat.le_refl 0
  | keep hw t ih => simp; omega
  | at_ hm t ih => simp; omega
theorem free_len {x : Wd} (h : okFree x = true) : x.length ≤ 8 := by
  simp only [okFree, nameOk, Bool.and_eq_true] at h
  exact of_decide_eq_true h.1.1.1.1.2
theorem r_lst {t : TA} {σ : L2.St} {H : Hp} {Q : VK} (h : t σ H fun xs H1 => xs.length ≤ sizeLine ∧ ∀ p, H1 p = none → Q (.ref p) (upd H1 p (.lst xs))) : tLst t σ H Q := h
theorem r_c {v : V} {σ : L2.St} {H : Hp} {Q : VK} (h : Q v H) : tC v σ H Q := h
theorem r_tail {σ : L2.St} {H : Hp} {Q : VK} {i : Nat} {c : Nat} {r : Wd} (h : σ[i]? = some (some (.str (S (c :: r))))) (hl : r.length ≤ 1000) (k : Q (.str (S r)) H) : tSl rSlS (tVar i) (tPart (tC (.int 1))) tNoPart σ H Q :=
  ⟨_, h, _, rfl, _, rfl, by rw [S_len, sizeLine_eq]; simp; omega, by rw [cut_tail]; exact k⟩
/-- the calls that are held, as names -/
def spHeld : Sp := fun vs H Q _ => ∃ (a : Addr) (n : Nat) (Ps : List Wd), vs = [.ref a] ∧ NmsAt (PtOk Ps) H a n ∧ n ≤ 100 ∧ ∀ (b : Addr) (H' : Hp), Ex H H' → H b = none → NmsAt (NmOk [] Ps) H' b n → Q (.ref b) H'
/-- words filled in -/
def spFilled : Sp := fun vs H Q _ => ∃ (p a : Addr) (c : Nat) (ws : List Wd), vs = [.ref p, .ref a] ∧ PotAt p c H ∧ H a = some (.lst (wV ws)) ∧ c + ws.length ≤ 2000000 ∧ (∀ z ∈ ws, z.length ≤ 1000) ∧
  ∀ (q : Addr) (ws' : List Wd) (c' : Nat) (H' : Hp), Kp p H H' → PotAt p c' H' → c' ≤ c + ws.length → H' q = some (.lst (wV ws')) → Fill ws ws' → Q (.ref q) H'
section
variable {P : Program} {w : World} {K : PySem.W.Frag} {mg : Str → Option Value} {base : Heap} {f : Addr} {fd : FuncData}
abbrev nHe : List Str := ["falling", "name", "kind"]
theorem scHe : FnScope nHe ["falling"] (C8.fnScope (top 51)) := C8.fnScope_by (by decide +kernel)
theorem ok_held (F : C8.Def K mg "_law_held_calls" (top 51) f fd) (b : Binds K fd ["falling"] []) (T : Txt3 K w mg) : C8.Cal P w K mg base 1 "_law_held_calls" spHeld [] := by
  refine C8.cal0 F b .nil scHe (fun vs H Q E h => by obtain ⟨a, n, Ps, rfl, _⟩ := h; rfl) (fun cdv A outer s H vs Q E hr h => ?_)
  obtain ⟨a, n, Ps, rfl, ⟨ns, ha, hn, hns⟩, hn1, k⟩ := h
  refine ⟨_, pss_one (ps_ret (pe_lc (own := [("name", 1), ("kind", 2)]) (g := gTup K 2 (gCons (gName 1) (gCons (gName 2) gNil))) (tt := tYes) rfl scHe.nd (pi_list (pv 0)) (blkOk_by (N := nHe) (sc := C8.fnScope (top 51)) (by decide +kernel))
      (fun _ _ _ _ _ => pg_tup (by rfl) (pgs_cons (pg_name (i := 1) scHe.nd rfl (Or.inl rfl)) (pgs_cons (pg_name (i := 2) scHe.nd rfl (Or.inl rfl)) pgs_nil)))
      (fun _ _ _ _ _ => pts_nil)
      (fun _ _ _ _ _ => pe_tup (pa_cons (pe_op op_add_str pe_str (pv 1)) (pa_cons (pv 2) pa_nil))))), ?_⟩
  refine ev_compR (σ := start nHe [.ref a]) (R := fun H y => ∃ z, NmOk [] Ps z ∧ NmAt H y z) (ns := ns) (ev_var rfl) ha (by omega) (fun G G' y e ⟨z, h1, h2⟩ => ⟨z, h1, h2.tk e⟩) (fun u hu G1 eG Kt Kf hKt hKf => ?_) _ fun r H3 e3 hr => ?_
  · obtain ⟨z, hz, tz, xz, kz, rfl, h1, h2, h3⟩ := hns u hu
    refine g_two (eG _ _ h1) ⟨rfl, ?_⟩
    have hcat : (Str.ofString "@" ++ S z : Str) = S (64 :: z) := by
      rw [show (Str.ofString "@" : Str) = S [64] from by decide]
      exact S_cat (a := [64]) (b := z)
    refine ⟨_, rfl, Str.ofString "@", S z, rfl, rfl, by rw [show (Str.ofString "@" : Str) = S [64] from by decide, S_len, S_len, sizeLine_eq]; have := free_len hz.1; simp; omega, _, rfl, two_le, fun t ht => ?_⟩
    rw [hcat]
    exact hKt _ _ (ex_put ht (Ex.refl G1)) ⟨64 :: z, Or.inr ⟨z, rfl, hz⟩, t, xz, kz, rfl, upd_same, h2.ex (eG.trans (ex_put ht (Ex.refl G1))), h3⟩
  · obtain ⟨r0, xs, rfl, hr0, hr1, hr2, hr3⟩ := hr
    exact k r0 H3 e3 hr0 ⟨xs, hr1, by omega, hr3⟩
abbrev nFi : List Str := ["pot", "line", "found", "word"]
theorem scFi : FnScope nFi ["pot", "line"] (C8.fnScope (top 52)) := C8.fnScope_by (by decide +kernel)
theorem ok_filled (F : C8.Def K mg "_law_filled" (top 52) f fd) (b : Binds K fd ["pot", "line"] []) (T : Txt3 K w mg) (cO : C8.Cal P w K mg base 2 "_law_of" (spOfG K) []) : C8.Cal P w K mg base 3 "_law_filled" spFilled [] := by
  refine C8.cal0 F b .nil scFi (fun vs H Q E h => by obtain ⟨p, a, c, ws, rfl, _⟩ := h; rfl) (fun cdv A outer s H vs Q E hr h => ?_)
  obtain ⟨p, a, c, ws, rfl, hp, ha, hc, hz, k⟩ := h
  refine ⟨_, pss_cons (ps_set (i := 2) scFi.nd rfl (Or.inl rfl) (pe_lst pa_nil))
    (pss_cons (ps_for PassesOwn.never rfl (pi_list (pv 1)) (pg_name (i := 3) scFi.nd rfl (Or.inl rfl))
      (pss_one (ps_if (pt_cmpR op_eq (pe_slice sl_str (pv 3) po_none (po_some pe_int)) pe_str (nomark _))
        (pss_one (ps_expr (pe_bm PySem.F.plainAttrs_list PySem.F.slot_list_extend PySem.F.type_list_extend mt_extend (pv 2) (pa_cons (pe_lst (pa_cons pe_str (pa_cons (pe_slice sl_str (pv 3) (po_some pe_int) po_none) (pa_cons (pe_callTy call_str_int (by rfl) T.str_ (by decide +kernel) (pa_cons (C8.pe_c cO hr (by omega) (by rfl) (pa_cons (pv 0) (pa_cons (pe_lst (pa_cons pe_int (pa_cons pe_int (pa_cons pe_int (pa_cons pe_int (pa_cons pe_int pa_nil)))))) pa_nil))) pa_nil)) pa_nil)))) pa_nil))))
        (pss_one (ps_expr (pe_bm PySem.F.plainAttrs_list PySem.F.slot_list_append PySem.F.type_list_append mt_append (pv 2) (pa_cons (pv 3) pa_nil)))))))
    (pss_one (ps_ret (pv 2)))), ?_⟩
  have n0 : a ≠ p := words_ne hp ha
  refine q_set ⟨by show 0 ≤ sizeLine; rw [sizeLine_eq]; omega, fun l hl => ?_⟩
  have e1 : Ex H (upd H l (.lst [])) := ex_put hl (Ex.refl H)
  have hl1 : (upd H l (.lst [])) l = some (.lst []) := upd_same
  have lp : l ≠ p := pot_ne hp hl
  have la : l ≠ a := fun z => by rw [z, ha] at hl; cases hl
  generalize upd H l (.lst []) = H1 at e1 hl1 ⊢
  have back : ∀ {G : Hp} {o : HO}, Kp p H G → Kp p H (upd G l o) := fun {G o} kG x u hx hu => by
    have : x ≠ l := fun z => by rw [z, hl] at hu; cases hu
    rw [upd_ne this]; exact kG x u hx hu
  have potb : ∀ {G : Hp} {o : HO} {c1 : Nat}, PotAt p c1 G → PotAt p c1 (upd G l o) := fun {G o c1} h => by
    obtain ⟨o1, m1, h1, h2⟩ := h
    exact ⟨o1, m1, by rw [upd_ne (Ne.symm lp)]; exact h1, h2⟩
  refine q_forL (K := K) (a := a) (xs := wV ws) (ev_var rfl) (sq_of (e1 _ _ ha)) (fun i σ G => ∃ (done : List Wd) (c1 : Nat) (y : Option V), σ = [some (.ref p), some (.ref a), some (.ref l), y] ∧ Kp p H G ∧ PotAt p c1 G ∧ c1 ≤ c + i ∧ G l = some (.lst (wV done)) ∧ Fill (ws.take i) done)
    (fun H2 e2 => ⟨[], c, none, rfl, Keep.of (e1.trans e2), (hp.ex e1).ex e2, Nat.le_refl _, e2 _ _ hl1, .nil⟩) (fun i σ' G _ ⟨_, _, _, _, kG, _⟩ => sq_of (kG _ _ n0 ha)) (fun i x σ' G hx ⟨done, c1, y, hσ, kG, hpG, hc1, hlG, hf⟩ => ?_) (fun σ' G ⟨done, c1, y, hσ, kG, hpG, hc1, hlG, hf⟩ => ?_)
  · subst hσ
    obtain ⟨z, hz1, rfl⟩ : ∃ z, ws[i]? = some z ∧ x = .str (S z) := by
      rw [List.getElem?_map] at hx
      cases h : ws[i]? with
      | none => rw [h] at hx; cases hx
      | some z => rw [h] at hx; exact ⟨z, rfl, (Option.some.inj hx).symm⟩
    have hi : i < ws.length := (List.getElem?_eq_some_iff.mp hz1).1
    have hzl := hz z (List.mem_of_getElem? hz1)
    have htk : ws.take (i + 1) = ws.take i ++ [z] := by rw [List.take_add_one, hz1]; rfl
    have hdl := hf.len
    have hdl2 : (ws.take i).length ≤ i := by rw [List.length_take]; omega
    have keep : z.head? ≠ some 64 → tDrop (tBM K "list" rAppend (tVar 2) (tCons (tVar 3) tNil)) { nx := fun σ G => ∃ (done : List Wd) (c1 : Nat) (y : Option V), σ = [some (.ref p), some (.ref a), some (.ref l), y] ∧ Kp p H G ∧ PotAt p c1 G ∧ c1 ≤ c + (i + 1) ∧ G l = some (.lst (wV done)) ∧ Fill (ws.take (i + 1)) done, rt := Q } [some (.ref p), some (.ref a), some (.ref l), some (.str (S z))] G := fun hne =>
      ⟨_, rfl, Or.inl ⟨rfl, _, sq_of hlG⟩, _, rfl, l, _, _, rfl, rfl, hlG, by rw [sizeLine_eq, List.length_map]; omega, done ++ [z], c1, _, rfl, back kG, potb hpG, by omega, by rw [upd_same]; simp, by rw [htk]; exact fill_two hf (.keep hne .nil)⟩
    refine ⟨_, rfl, _, rfl, S z, rfl, by rw [S_len, sizeLine_eq]; omega, rfl, _, rfl, ?_⟩
    dsimp only
    cases z with
    | nil =>
      rw [if_neg (by rw [cut_nil]; decide)]
      exact keep (by decide)
    | cons c0 r =>
      rw [cut_head]
      by_cases h64 : c0 = 64
      · subst h64
        rw [if_pos (by decide)]
        refine ⟨_, rfl, Or.inl ⟨rfl, _, sq_of hlG⟩, r_cons (r_lst (r_cons (r_c (r_cons (r_tail rfl (by simp at hzl; omega) (r_cons (r_cb (r_callVL (ev_var rfl) (el_lst (ea_cons ev_c (ea_cons ev_c (ea_cons ev_c (ea_cons ev_c (ea_cons ev_c ea_nil))))) (by show 5 ≤ 100000; decide)) fun t H5 ht e5 hx5 => ⟨p, t, c1, _, rfl, hpG.ex e5, by omega, hx5, by show 0 < 5; decide, by show 5 ≤ 1000; decide, pot_ne hpG ht, fun y2 c2 H6 hy k6 hp6 hc6 => ?_⟩)))))))) ⟩
        have num : ∃ (j : Int) (m : Wd), y2 = .int j ∧ j.natAbs.log2 < 1920 ∧ Str.ofString (toString j) = S m ∧ m ∈ NUM4 := by
          simp only [List.mem_cons, List.not_mem_nil, or_false] at hy
          rcases hy with rfl | rfl | rfl | rfl | rfl
          · exact ⟨0, [48], rfl, by decide +kernel, by decide +kernel, by decide⟩
          · exact ⟨1, [49], rfl, by decide +kernel, by decide +kernel, by decide⟩
          · exact ⟨2, [50], rfl, by decide +kernel, by decide +kernel, by decide⟩
          · exact ⟨2, [50], rfl, by decide +kernel, by decide +kernel, by decide⟩
          · exact ⟨3, [51], rfl, by decide +kernel, by decide +kernel, by decide⟩
        obtain ⟨j, m, rfl, l0, hm, hm4⟩ := num
        refine ⟨j, rfl, l0, ?_⟩
        rw [hm]
        refine ⟨by show 3 ≤ sizeLine; rw [sizeLine_eq]; omega, fun q hq => ?_⟩
        have k06 : Kp p H H6 := kG.trans (Kp.pre e5 k6)
        have hl6 : H6 l = some (.lst (wV done)) := k6 _ _ lp (e5 _ _ hlG)
        have e7 : Ex H6 (upd H6 q (.lst [.str (Str.ofString "call"), .str (S r), .str (S m)])) := ex_put hq (Ex.refl H6)
        refine ⟨l, q, _, _, rfl, rfl, e7 _ _ hl6, upd_same, by rw [sizeLine_eq, List.length_map]; simp; omega, done ++ [CALL, r, m], c2, _, rfl, back (k06.ex e7), potb (hp6.ex e7), by omega, by rw [upd_same, show (Str.ofString "call" : Str) = S CALL from by decide]; simp, by rw [htk]; exact fill_two hf (.at_ hm4 .nil)⟩
      · rw [if_neg (by rw [show (Str.ofString "@" : Str) = S [64] from by decide, decide_eq_true_eq]; intro z; injection z with z; injection z with z; simp at z; exact h64 z)]
        exact keep (by simpa using h64)
  · subst hσ
    rw [List.length_map] at hf hc1
    rw [List.take_length] at hf
    exact ⟨_, rfl, k l done c1 G kG hpG hc1 hlG hf⟩
end
end K5
set_option Elab.async false
set_option linter.all false
set_option maxRecDepth 100000
set_option maxHeartbeats 4000000
namespace K5
open PySem PySem.Spec PyProof.Rows L2 Evl Xl SX Mi
def LsAt (H : Hp) : List Addr → List (List Wd) → Prop
  | [], [] => True
  | r :: rs, l :: ls => (H r = some (.lst (wV l)) ∧ l ≠ []) ∧ LsAt H rs ls
  | _, _ => False
theorem LsAt.mono {H H' : Hp} : ∀ {rs : List Addr} {ls : List (List Wd)}, (∀ r l, H r = some (.lst (wV l)) → l ≠ [] → H' r = some (.lst (wV l))) → LsAt H rs ls → LsAt H' rs ls := by
  intro rs
  induction rs with
  | nil => intro ls k h; cases ls with
    | nil => trivial
    | cons a b => exact h
  | cons r rs ih => intro ls k h; cases ls with
    | nil => exact h
    | cons a b => exact ⟨⟨k _ _ h.1.1 h.1.2, h.1.2⟩, ih k h.2⟩
theorem LsAt.ex {H H' : Hp} {rs : List Addr} {ls : List (List Wd)} (h : LsAt H rs ls) (e : Ex H H') : LsAt H' rs ls := h.mono fun r l hr _ => e _ _ hr
theorem LsAt.keep {p : Addr} {c : Nat} {H H' : Hp} {rs : List Addr} {ls : List (List Wd)} (h : LsAt H rs ls) (hp : PotAt p c H) (k : Kp p H H') : LsAt H' rs ls := h.mono fun r l hr _ => k _ _ (words_ne hp hr) hr
theorem LsAt.put_ {H : Hp} {x : Addr} {as zs : List V} {rs : List Addr} {ls : List (List Wd)} (h : LsAt H rs ls) (hx : H x = some (.lst as)) (ha : ∀ z ∈ as, ∃ a, z = .ref a) : LsAt (upd H x (.lst zs)) rs ls := h.mono fun r l hr hl => by
  have : r ≠ x := fun e => by
    rw [e, hx] at hr
    injection hr with hr; injection hr with hr
    cases l with
    | nil => exact hl rfl
    | cons a b =>
      obtain ⟨y, hy⟩ := ha (.str (S a)) (by rw [hr]; exact List.mem_cons_self ..)
      cases hy
  rw [upd_ne this]; exact hr
theorem LsAt.app {H : Hp} : ∀ {rs rs' : List Addr} {ls ls' : List (List Wd)}, LsAt H rs ls → LsAt H rs' ls' → LsAt H (rs ++ rs') (ls ++ ls') := by
  intro rs
  induction rs with
  | nil => intro rs' ls ls' h h'; cases ls with
    | nil => exact h'
    | cons a b => exact h.elim
  | cons r rs ih => intro rs' ls ls' h h'; cases ls with
    | nil => exact h.elim
    | cons a b => exact ⟨h.1, ih h.2 h'⟩
theorem LsAt.len {H : Hp} : ∀ {rs : List Addr} {ls : List (List Wd)}, LsAt H rs ls → rs.length = ls.length := by
  intro rs
  induction rs with
  | nil => intro ls h; cases ls with
    | nil => rfl
    | cons a b => exact h.elim
  | cons r rs ih => intro ls h; cases ls with
    | nil => exact h.elim
    | cons a b => simp [ih h.2]
theorem LsAt.at_ {H : Hp} : ∀ {rs : List Addr} {ls : List (List Wd)} {i : Nat} {r : Addr}, LsAt H rs ls → rs[i]? = some r → ∃ l, ls[i]? = some l ∧ H r = some (.lst (wV l)) := by
  intro rs
  induction rs with
  | nil => intro ls i r h hi; cases hi
  | cons a rs ih =>
    intro ls i r h hi
    cases ls with
    | nil => exact h.elim
    | cons l ls =>
      cases i with
      | zero => injection hi with hi; subst hi; exact ⟨l, rfl, h.1.1⟩
      | succ i => simpa using ih (ls := ls) (i := i) h.2 (by simpa using hi)
theorem NmsAt.le {q : Wd → Prop} {H : Hp} {a : Addr} {n m : Nat} (h : NmsAt q H a n) (hn : n ≤ m) : NmsAt q H a m := by
  obtain ⟨ns, h1, h2, h3⟩ := h; exact ⟨ns, h1, by omega, h3⟩
theorem NmsAt.refs {q : Wd → Prop} {H : Hp} {ns : List V} (h : ∀ v ∈ ns, ∃ z, q z ∧ NmAt H v z) : ∀ z ∈ ns, ∃ a, z = .ref a := fun v hv => by
  obtain ⟨z, _, t, x, k, h1, _⟩ := h v hv; exact ⟨t, h1⟩
theorem NmsAt.put_ {q : Wd → Prop} {H : Hp} {a x : Addr} {n : Nat} {as zs : List V} (h : NmsAt q H a n) (hx : H x = some (.lst as)) (ne : a ≠ x) : NmsAt q (upd H x (.lst zs)) a n := by
  obtain ⟨ns, h1, h2, h3⟩ := h
  exact ⟨ns, by rw [upd_ne ne]; exact h1, h2, fun v hv => by obtain ⟨z, hz, hn⟩ := h3 v hv; exact ⟨z, hz, hn.tk (TKeep.lst hx)⟩⟩
theorem NmsAt.push {q : Wd → Prop} {H : Hp} {a : Addr} {n : Nat} {v : V} {z : Wd} (h : NmsAt q H a n) (hz : q z) (hv : NmAt H v z) : ∃ ns, H a = some (.lst ns) ∧ ns.length ≤ n ∧ (∀ z ∈ ns, ∃ a, z = .ref a) ∧ NmsAt q (upd H a (.lst (ns ++ [v]))) a (n + 1) := by
  obtain ⟨ns, h1, h2, h3⟩ := h
  refine ⟨ns, h1, h2, NmsAt.refs h3, ns ++ [v], upd_same, by simp; omega, fun u hu => ?_⟩
  rcases List.mem_append.1 hu with hu | hu
  · obtain ⟨z, hz, hn⟩ := h3 u hu; exact ⟨z, hz, hn.tk (TKeep.lst h1)⟩
  · rw [List.mem_singleton.1 hu]; exact ⟨z, hz, hv.tk (TKeep.lst h1)⟩
theorem PotAt.put_ {p x : Addr} {c : Nat} {H : Hp} {o : HO} (h : PotAt p c H) (ne : x ≠ p) : PotAt p c (upd H x o) := by
  obtain ⟨o1, m1, h1, h2⟩ := h
  exact ⟨o1, m1, by rw [upd_ne (Ne.symm ne)]; exact h1, h2⟩
/-- what was drawn so far: the lines, the parts, those that call themselves -/
structure DrI (p l lp lf : Addr) (N M : List Wd) (i c1 : Nat) (G : Hp) (rs : List Addr) (L : List (Wd × List Wd)) : Prop where
  pot : PotAt p c1 G
  lines : G l = some (.lst (rs.map V.ref))
  at_ : LsAt G rs (L.map preL)
  pre : PreOk N L
  len : ∀ x ∈ L, x.2.length ≤ 82000
  parts : NmsAt (PtOk M) G lp i
  fall : NmsAt (PtOk M) G lf i
structure ApartD (p l lp lf : Addr) : Prop where
  lp_ : l ≠ p
  pp : lp ≠ p
  fp : lf ≠ p
  llp : l ≠ lp
  llf : l ≠ lf
  pf : lp ≠ lf
section
variable {p l lp lf : Addr} {N M : List Wd} {i c1 : Nat} {G : Hp} {rs : List Addr} {L : List (Wd × List Wd)}
theorem DrI.keep {c2 : Nat} {G' : Hp} (h : DrI p l lp lf N M i c1 G rs L) (A : ApartD p l lp lf) (k : Kp p G G') (hp : PotAt p c2 G') : DrI p l lp lf N M i c2 G' rs L :=
  ⟨hp, k _ _ A.lp_ h.lines, h.at_.keep h.pot k, h.pre, h.len, h.parts.keep h.pot k A.pp, h.fall.keep h.pot k A.fp⟩
theorem refs_ref {rs : List Addr} : ∀ z ∈ rs.map V.ref, ∃ a, z = V.ref a := fun z hz => by
  obtain ⟨a, _, rfl⟩ := List.mem_map.1 hz; exact ⟨a, rfl⟩
theorem DrI.addLine {r : Addr} {nm : Wd} {ws : List Wd} (h : DrI p l lp lf N M i c1 G rs L) (A : ApartD p l lp lf) (hr : G r = some (.lst (wV (preL (nm, ws))))) (hw : ∃ r, ws = FUN :: r) (ho : Out [] (N ++ [nm]) 20 ws) (hl : ws.length ≤ 82000) : DrI p l lp lf (N ++ [nm]) M i c1 (upd G l (.lst (rs.map V.ref ++ [.ref r]))) (rs ++ [r]) (L ++ [(nm, ws)]) := by
  have one : LsAt G (rs ++ [r]) ((L ++ [(nm, ws)]).map preL) := by
    rw [List.map_append]
    exact h.at_.app ⟨⟨hr, by intro z; cases z⟩, trivial⟩
  refine ⟨h.pot.put_ A.lp_, by rw [upd_same, List.map_append]; rfl, one.put_ h.lines refs_ref, ⟨?_, fun x hx => ?_, fun x hx => ?_⟩, fun x hx => ?_, h.parts.put_ h.lines (Ne.symm A.llp), h.fall.put_ h.lines (Ne.symm A.llf)⟩
  · rw [List.map_append, h.pre.names]; rfl
  · rcases List.mem_append.1 hx with hx | hx
    · exact h.pre.fun_ x hx
    · rw [List.mem_singleton.1 hx]; exact hw
  · rcases List.mem_append.1 hx with hx | hx
    · exact (h.pre.out x hx).mono (fun _ h => h) (fun _ h => List.mem_append_left _ h) (Nat.le_refl _)
    · rw [List.mem_singleton.1 hx]; exact ho
  · rcases List.mem_append.1 hx with hx | hx
    · exact h.len x hx
    · rw [List.mem_singleton.1 hx]; exact hl
theorem pt_more {M M' : List Wd} (hM : ∀ z ∈ M, z ∈ M') : ∀ z, PtOk M z → PtOk M' z := fun z h => ⟨h.1, hM z h.2⟩
theorem DrI.addFall {v : V} {nm : Wd} {M' : List Wd} (h : DrI p l lp lf N M i c1 G rs L) (A : ApartD p l lp lf) (hM : ∀ z ∈ M, z ∈ M') (hn : PtOk M' nm) (hv : NmAt G v nm) : ∃ ns, G lf = some (.lst ns) ∧ ns.length ≤ i ∧ DrI p l lp lf N M' (i + 1) c1 (upd G lf (.lst (ns ++ [v]))) rs L := by
  obtain ⟨ns, h1, h2, h3, h4⟩ := (h.fall.sub (pt_more hM)).push hn hv
  exact ⟨ns, h1, h2, ⟨h.pot.put_ A.fp, by rw [upd_ne A.llf]; exact h.lines, h.at_.put_ h1 h3, h.pre, h.len, ((h.parts.sub (pt_more hM)).put_ h1 A.pf).le (by omega), h4⟩⟩
theorem DrI.addPart {v : V} {nm : Wd} {M' : List Wd} (h : DrI p l lp lf N M i c1 G rs L) (A : ApartD p l lp lf) (hM : ∀ z ∈ M, z ∈ M') (hn : PtOk M' nm) (hv : NmAt G v nm) : ∃ ns, G lp = some (.lst ns) ∧ ns.length ≤ i ∧ DrI p l lp lf N M' (i + 1) c1 (upd G lp (.lst (ns ++ [v]))) rs L := by
  obtain ⟨ns, h1, h2, h3, h4⟩ := (h.parts.sub (pt_more hM)).push hn hv
  exact ⟨ns, h1, h2, ⟨h.pot.put_ A.pp, by rw [upd_ne A.llp]; exact h.lines, h.at_.put_ h1 h3, h.pre, h.len, h4, ((h.fall.sub (pt_more hM)).put_ h1 (Ne.symm A.pf)).le (by omega)⟩⟩
end
theorem q_forLL {K : PySem.W.Frag} {te : TE} {σ : L2.St} {H : Hp} {xs : List V} {g : TG} {tu tz : TS} {D : Ends} (h : EvL te σ H xs) (Pv : Addr → Nat → L2.St → Hp → Prop) (h0 : ∀ a H1, H a = none → Ex H H1 → H1 a = some (.lst xs) → Pv a 0 σ H1)
    (hs : ∀ a i σ' H', Pv a i σ' H' → SqL K H' a xs)
    (ht : ∀ a i x σ' H', xs[i]? = some x → Pv a i σ' H' → g x σ' H' fun σ2 H2 => tu { nx := Pv a (i + 1), rt := D.rt, bk := tz D, ct := Pv a (i + 1) } σ2 H2)
    (hd : ∀ a σ' H', Pv a xs.length σ' H' → tz D σ' H') : tSeq (tFor (iList K te) g tu) tz D σ H :=
  h H (Ex.refl H) _ fun a H1 ha e1 hx => ⟨a, rfl, ⟨_, sq_of hx⟩, for_list (D := { nx := tz D, rt := D.rt, bk := D.bk, ct := D.ct }) (Pv a) (h0 a H1 ha e1 hx) (fun i σ' H' _ p => hs a i σ' H' p) (fun i x σ' H' hx' p => ht a i x σ' H' hx' p) fun σ' H' p => hd a σ' H' p⟩
theorem el_take {K : PySem.W.Frag} {tl : TE} {σ : L2.St} {H : Hp} {xs : List V} {i m : Nat} (h : EvL tl σ H xs) (hi : σ[i]? = some (some (.int m))) : EvL (tSl (rSlL K) tl tNoPart (tPart (tVar i))) σ H (xs.take m) := fun H1 e Q q =>
  h H1 e _ fun a H2 ha e2 hx => ⟨_, hi, _, rfl, a, xs, rfl, sq_of hx, fun b hb => by
    have hc : cutV xs none (some (m : Int)) = xs.take m := by
      unfold cutV
      simp only [HT.sIx]
      rw [if_neg (by omega)]
      simp only [List.drop_zero, Nat.sub_zero, Int.toNat_natCast]
      by_cases z : m ≤ xs.length
      · rw [Nat.min_eq_left z]
      · rw [Nat.min_eq_right (by omega), List.take_length, List.take_of_length_le (by omega)]
    rw [hc]
    exact q b _ (fresh_back e2 hb) (e2.trans (ex_put hb (Ex.refl H2))) upd_same⟩
end K5
set_option Elab.async false
set_option linter.all false
set_option maxRecDepth 100000
set_option maxHeartbeats 4000000
namespace K5
open PySem PySem.Spec PyProof.Rows L2 Evl Xl SX Mi
theorem fill_any : ∀ (ws : List Wd), ∃ c, Fill ws c ∧ ∀ z ∈ ws, ∃ y ∈ c, z.length ≤ y.length + 1 := by
  intro ws
  induction ws with
  | nil => exact ⟨[], .nil, fun z hz => by cases hz⟩
  | cons w r ih =>
    obtain ⟨c, h1, h2⟩ := ih
    by_cases hw : w.head? = some 64
    · cases w with
      | nil => cases hw
      | cons a x =>
        have : a = 64 := by simpa using hw
        subst this
        refine ⟨CALL :: x :: [48] :: c, .at_ (by decide) h1, fun z hz => ?_⟩
        rcases List.mem_cons.1 hz with rfl | hz
        · exact ⟨x, by simp, by simp⟩
        · obtain ⟨y, hy, hl⟩ := h2 z hz; exact ⟨y, by simp [hy], hl⟩
    · refine ⟨w :: c, .keep hw h1, fun z hz => ?_⟩
      rcases List.mem_cons.1 hz with rfl | hz
      · exact ⟨z, by simp, by omega⟩
      · obtain ⟨y, hy, hl⟩ := h2 z hz; exact ⟨y, by simp [hy], hl⟩
theorem ari_len {w : Wd} {k : Nat} (h : ari w = some k) : w.length ≤ 8 := by
  have m : w ∈ ARI.map (·.1) := by
    unfold ari at h
    apply Classical.byContradiction; intro hn
    rw [show ARI.lookup w = none from List.lookup_eq_none_iff.2 fun p hp => by
      rw [bne_iff_ne]; rintro rfl; exact hn (List.mem_map_of_mem hp)] at h
    cases h
  have all : ∀ x ∈ ARI.map (·.1), x.length ≤ 8 := by decide
  exact all w m
theorem bind_len {s n : Wd} (h : bindOk s n) : ∀ w ∈ nmW n, w.length ≤ 8 := fun w hw => by
  unfold nmW at hw; split at hw
  · cases hw
  · rename_i hn
    rw [List.mem_singleton.1 hw]
    cases hb : isBind s with
    | true => exact free_len (h.1 hb).2
    | false => exact absurd (h.2 hb) hn
theorem tr_short : ∀ {e : Tr}, e.Ok → ∀ w ∈ e.words, w.length ≤ 8 := by
  intro e
  induction e with
  | leaf w =>
    intro ok x hx
    rw [List.mem_singleton.1 hx]
    rcases ok.2 with h | h
    · exact free_len h
    · simp only [written, Bool.and_eq_true, decide_eq_true_eq] at h; have := h.1; omega
  | un s n a iha =>
    intro ok x hx
    rcases List.mem_cons.1 hx with rfl | hx
    · exact ari_len ok.1
    · rcases List.mem_append.1 hx with hx | hx
      · exact bind_len ok.2.1 x hx
      · exact iha ok.2.2 x hx
  | bi s n a b iha ihb =>
    intro ok x hx
    rcases List.mem_cons.1 hx with rfl | hx
    · exact ari_len ok.1
    · rcases List.mem_append.1 hx with hx | hx
      · exact bind_len ok.2.1 x hx
      · rcases List.mem_append.1 hx with hx | hx
        · exact iha ok.2.2.1 x hx
        · exact ihb ok.2.2.2 x hx
  | tri s a b c iha ihb ihc =>
    intro ok x hx
    rcases List.mem_cons.1 hx with rfl | hx
    · exact ari_len ok.1
    · rcases List.mem_append.1 hx with hx | hx
      · exact iha ok.2.2.1 x hx
      · rcases List.mem_append.1 hx with hx | hx
        · exact ihb ok.2.2.2.1 x hx
        · exact ihc ok.2.2.2.2 x hx
theorem out_short {B P : List Wd} {d : Nat} {ws : List Wd} (h : Out B P d ws) : ∀ z ∈ ws, z.length ≤ 9 := fun z hz => by
  obtain ⟨c, h1, h2⟩ := fill_any ws
  obtain ⟨e, rfl, ok, _⟩ := h c h1
  obtain ⟨y, hy, hl⟩ := h2 z hz
  have := tr_short ok y hy
  omega
def sumL (ls : List (List Wd)) : Nat := (ls.map List.length).sum
theorem sumL_snoc {ls : List (List Wd)} {l : List Wd} : sumL (ls ++ [l]) = sumL ls + l.length := by simp [sumL]
theorem sumL_take {ls : List (List Wd)} {i : Nat} : sumL (ls.take i) ≤ sumL ls := by
  have h : sumL (ls.take i ++ ls.drop i) = sumL (ls.take i) + sumL (ls.drop i) := by unfold sumL; rw [List.map_append, List.sum_append]
  rw [List.take_append_drop] at h
  omega
theorem fill_ne {a c : List Wd} (h : Fill a c) (ha : a ≠ []) : c ≠ [] := by
  cases h with
  | nil => exact absurd rfl ha
  | keep _ _ => intro z; cases z
  | at_ _ _ => intro z; cases z
theorem LsAt.ne_ {H : Hp} : ∀ {rs : List Addr} {ls : List (List Wd)}, LsAt H rs ls → ∀ l ∈ ls, l ≠ [] := by
  intro rs
  induction rs with
  | nil => intro ls h l hl; cases ls with
    | nil => cases hl
    | cons a b => exact h.elim
  | cons r rs ih =>
    intro ls h l hl
    cases ls with
    | nil => cases hl
    | cons a b =>
      rcases List.mem_cons.1 hl with rfl | hl
      · exact h.1.2
      · exact ih h.2 l hl
/-- all lines filled in -/
theorem r_fillAll {K : PySem.W.Frag} {σ : L2.St} {H : Hp} {Q : VK} {p l : Addr} {rs : List Addr} {lines : List (List Wd)} {c i3 j : Nat} {vs : List Nat} (h3 : σ[i3]? = some (some (.ref l))) (hl : H l = some (.lst (rs.map V.ref))) (hlp : l ≠ p) (at_ : LsAt H rs lines) (hp : PotAt p c H)
    (hw : ∀ ln ∈ lines, ∀ z ∈ ln, z.length ≤ 1000) (hc : c + sumL lines ≤ 2000000) (hn : lines.length ≤ 100)
    (s0 : ∀ x, ((wipe σ vs).set j (some x))[0]? = some (some (.ref p))) (sj : ∀ x, ((wipe σ vs).set j (some x))[j]? = some (some x)) (sw : ∀ x, wipe ((wipe σ vs).set j (some x)) vs = wipe σ vs)
    (kk : ∀ (q : Addr) (rs' : List Addr) (cs : List (List Wd)) (c' : Nat) (H' : Hp), Kp p H H' → PotAt p c' H' → c' ≤ c + sumL lines → H' q = some (.lst (rs'.map V.ref)) → LsAt H' rs' cs → Fills lines cs → Q (.ref q) H') :
    tLc (iList K (tVar i3)) (gName j) tYes (tCall spFilled [] C8.E0 (tCons (tVar 0) (tCons (tVar j) tNil))) vs σ H Q := by
  refine ⟨_, h3, l, rfl, ⟨_, sq_of hl⟩, fun D hD => ?_⟩
  have Dp : D ≠ p := pot_ne hp hD
  have back : ∀ {G : Hp} {o : HO}, Kp p H G → Kp p H (upd G D o) := fun {G o} kG x u hx hu => by
    have : x ≠ D := fun z => by rw [z, hD] at hu; cases hu
    rw [upd_ne this]; exact kG x u hx hu
  have ln : rs.length = lines.length := at_.len
  refine comp_walk (body := fun x H' Nx => gName j x (wipe σ vs) H' fun σ2 H2 => wipe σ2 vs = wipe σ vs ∧ tYes σ2 H2 fun b H3 => if b = true then tCall spFilled [] C8.E0 (tCons (tVar 0) (tCons (tVar j) tNil)) σ2 H3 (fun y H4 => ∃ acc, H4 D = some (.lst acc) ∧ acc.length < sizeLine ∧ Nx (upd H4 D (.lst (acc ++ [y])))) else Nx H3)
    (walk_list (K := K) (a := l) (xs := rs.map V.ref)) (fun i G => Kp p H G ∧ ∃ (c1 : Nat) (rs' : List Addr) (cs : List (List Wd)), PotAt p c1 G ∧ c1 ≤ c + sumL (lines.take i) ∧ G D = some (.lst (rs'.map V.ref)) ∧ LsAt G rs' cs ∧ Fills (lines.take i) cs ∧ rs'.length ≤ i)
    ⟨back (Keep.refl _ _), c, [], [], hp.put_ Dp, by simp [sumL], upd_same, trivial, .nil, Nat.le_refl _⟩ (fun i G _ h => sq_of (h.1 _ _ hlp hl)) (fun i G x G' hi hpv hy => ?_) (fun G hpv => ?_)
  · obtain ⟨rfl, hx⟩ := hy
    obtain ⟨kG, c1, rs', cs, hpG, hc1, hGD, hls, hf, hrl⟩ := hpv
    obtain ⟨r, hr, rfl⟩ : ∃ r, rs[i]? = some r ∧ x = .ref r := by
      rw [List.getElem?_map] at hx
      cases z : rs[i]? with
      | none => rw [z] at hx; cases hx
      | some r => rw [z] at hx; exact ⟨r, rfl, (Option.some.inj hx).symm⟩
    obtain ⟨w0, hw0, hr0⟩ := at_.at_ hr
    have hrG := kG _ _ (words_ne hp hr0) hr0
    have htk : lines.take (i + 1) = lines.take i ++ [w0] := by rw [List.take_add_one, hw0]; rfl
    have hs1 : sumL (lines.take (i + 1)) = sumL (lines.take i) + w0.length := by rw [htk, sumL_snoc]
    have hs2 := sumL_take (ls := lines) (i := i + 1)
    rw [List.length_map, ln] at hi
    refine ⟨sw _, r_call (vs := [.ref p, .ref r]) (ea_cons (ev_var (s0 _)) (ea_cons (ev_var (sj _)) ea_nil)) fun H5 e5 => ⟨p, r, c1, w0, rfl, hpG.ex e5, e5 _ _ hrG, by omega, hw w0 (List.mem_of_getElem? hw0), fun q ws' c2 H6 k6 hp6 hc6 hq6 hf6 => ?_⟩⟩
    have k56 : Kp p G' H6 := Kp.pre e5 k6
    have hD6 := k56 _ _ Dp hGD
    refine ⟨_, hD6, by rw [sizeLine_eq, List.length_map]; omega, back (kG.trans k56), c2, rs' ++ [q], cs ++ [ws'], hp6.put_ Dp, by omega, by rw [upd_same, List.map_append]; rfl, ?_, by rw [htk]; exact hf.two (.cons hf6 .nil), by simp; omega⟩
    have hls6 := (hls.keep hpG k56).put_ (zs := rs'.map V.ref ++ [.ref q]) hD6 refs_ref
    have qD : q ≠ D := fun z => by
      rw [z, hD6] at hq6
      injection hq6 with hq6; injection hq6 with hq6
      cases ws' with
      | nil => exact fill_ne hf6 (at_.ne_ w0 (List.mem_of_getElem? hw0)) rfl
      | cons a b =>
        cases rs' with
        | nil => cases hq6
        | cons a2 b2 => injection hq6 with h1 _; cases h1
    exact hls6.app ⟨⟨by rw [upd_ne qD]; exact hq6, fill_ne hf6 (at_.ne_ w0 (List.mem_of_getElem? hw0))⟩, trivial⟩
  · obtain ⟨kG, c1, rs', cs, hpG, hc1, hGD, hls, hf, hrl⟩ := hpv
    rw [List.length_map, ln, List.take_length] at hf hc1
    exact kk D rs' cs c1 G kG hpG hc1 hGD hls hf
end K5
set_option Elab.async false
set_option linter.all false
set_option maxRecDepth 100000
set_option maxHeartbeats 4000000
namespace K5
open PySem PySem.Spec PyProof.Rows L2 Evl Xl SX Mi
theorem el_lens {K : PySem.W.Frag} {σ : L2.St} {H : Hp} {l : Addr} {rs : List Addr} {cs : List (List Wd)} {i3 j : Nat} {vs : List Nat} (h3 : σ[i3]? = some (some (.ref l))) (hl : H l = some (.lst (rs.map V.ref))) (at_ : LsAt H rs cs) (hn : cs.length ≤ 100)
    (sj : ∀ x, ((wipe σ vs).set j (some x))[j]? = some (some x)) (sw : ∀ x, wipe ((wipe σ vs).set j (some x)) vs = wipe σ vs) :
    EvL (tLc (iList K (tVar i3)) (gName j) tYes (tCB (rLenS K) (tCons (tVar j) tNil)) vs) σ H ((cs.map fun c => (c.length : Int)).map V.int) := fun H1 e1 Q q => by
  refine ⟨_, h3, l, rfl, ⟨_, sq_of (e1 _ _ hl)⟩, fun D hD => ?_⟩
  have ln : rs.length = cs.length := at_.len
  have at1 := at_.ex e1
  refine comp_walk (body := fun x H' Nx => gName j x (wipe σ vs) H' fun σ2 H2 => wipe σ2 vs = wipe σ vs ∧ tYes σ2 H2 fun b H3 => if b = true then tCB (rLenS K) (tCons (tVar j) tNil) σ2 H3 (fun y H4 => ∃ acc, H4 D = some (.lst acc) ∧ acc.length < sizeLine ∧ Nx (upd H4 D (.lst (acc ++ [y])))) else Nx H3)
    (walk_list (K := K) (a := l) (xs := rs.map V.ref)) (fun i G => Ex H1 G ∧ G D = some (.lst (((cs.take i).map fun c => (c.length : Int)).map V.int)))
    ⟨ex_put hD (Ex.refl H1), upd_same⟩ (fun i G _ h => sq_of (h.1 _ _ (e1 _ _ hl))) (fun i G x G' hi hpv hy => ?_) (fun G hpv => ?_)
  · obtain ⟨rfl, hx⟩ := hy
    obtain ⟨eG, hGD⟩ := hpv
    obtain ⟨r, hr, rfl⟩ : ∃ r, rs[i]? = some r ∧ x = .ref r := by
      rw [List.getElem?_map] at hx
      cases z : rs[i]? with
      | none => rw [z] at hx; cases hx
      | some r => rw [z] at hx; exact ⟨r, rfl, (Option.some.inj hx).symm⟩
    obtain ⟨w0, hw0, hr0⟩ := at1.at_ hr
    have htk : cs.take (i + 1) = cs.take i ++ [w0] := by rw [List.take_add_one, hw0]; rfl
    rw [List.length_map, ln] at hi
    refine ⟨sw _, (ev_len (K := K) (ev_var (sj _)) (sq_of (eG _ _ hr0)) : Ev _ _ G' _) G' (Ex.refl G') _ fun H4 e4 => ⟨_, e4 _ _ hGD, ?_, ex_put hD (eG.trans e4), ?_⟩⟩
    · rw [sizeLine_eq]; simp; omega
    · rw [upd_same, htk]; simp
  · obtain ⟨eG, hGD⟩ := hpv
    rw [List.length_map, ln, List.take_length] at hGD
    exact q D G hD eG hGD
theorem r_maxlt {K : PySem.W.Frag} {te : TE} {σ : L2.St} {H : Hp} {Q : Bool → Hp → Prop} {ns : List Int} {m0 : Int} (h : EvL te σ H (ns.map V.int)) (hn : 0 < ns.length) (k : ∀ m H1, Ex H H1 → m ∈ ns → (∀ y ∈ ns, y ≤ m) → Q (decide (m < m0)) H1) :
    tTest (tOp (rI0 fun i j => V.bl (decide (i < j))) (tCB (rMax K) (tCons te tNil)) (tC (.int m0))) σ H Q :=
  h H (Ex.refl H) _ fun p H2 hp e2 hx => ⟨p, ns, rfl, sq_of hx, hn, fun m hm ha => ⟨_, _, rfl, rfl, _, rfl, k m H2 e2 hm ha⟩⟩
theorem fill_self : ∀ {ws : List Wd}, (∀ w ∈ ws, w.head? ≠ some 64) → Fill ws ws := by
  intro ws
  induction ws with
  | nil => intro _; exact .nil
  | cons w r ih => intro h; exact .keep (h w (List.mem_cons_self ..)) (ih fun x hx => h x (List.mem_cons_of_mem _ hx))
theorem nms_len {ps : List Pt} {k : Nat} (h : nmsP ps = NMS4.take k) : ps.length ≤ 4 := by
  have : (nmsP ps).length = (NMS4.take k).length := by rw [h]
  rw [List.length_take] at this
  have h4 : NMS4.length = 4 := rfl
  unfold nmsP at this; rw [List.length_map] at this; omega
def FB1 : List Wd := [PART, [102], FUN, [120], PLUSW, [120], [120]]
/-- what stands in for a program that is too long -/
theorem fall_back {mn : Nat} : ∃ (ps : List Pt) (e : Tr), PtsOk ps ∧ RunOk ps e ∧ (ps.length ≤ 4 ∧ Bns ps e) ∧ ([FB1].take mn ++ [RUN :: (if 0 < mn then [CALL, [102], [50]] else [[50]])]) = ps.map partW ++ [runWs e] := by
  have n2 : ∀ {B P : List Wd}, Out B P 1 [[50]] := out_num (by decide) (by decide) (by decide) (by decide)
  by_cases h : mn = 0
  · subst h
    obtain ⟨ps, e, h1, h2, h3, h5, h6⟩ := drawn_ok (L := []) (k := 0) (run := [[50]]) (cs := [[RUN, [50]]]) ⟨rfl, (fun x hx => (by cases hx)), (fun x hx => (by cases hx))⟩ (n2.up (by omega)) (.cons (fill_self (by decide)) .nil) (by decide)
    exact ⟨ps, e, h1, h2, ⟨nms_len h5, h6⟩, h3⟩
  · have h1 : [FB1].take mn = [FB1] := by
      obtain ⟨m, rfl⟩ : ∃ m, mn = m + 1 := ⟨mn - 1, by omega⟩
      simp
    rw [h1, if_pos (by omega)]
    have ox : Out [[120]] (NMS4.take 1) 1 [[120]] := out_name (by decide) (Or.inl (by decide))
    have o1 : Out [] (NMS4.take 1) 20 [FUN, [120], PLUSW, [120], [120]] := (out_fun (n := [120]) (d := 2) (by decide) (out_bi (s := PLUSW) (a := [[120]]) (b := [[120]]) (d := 1) (by decide) (by decide) ox ox)).up (by omega)
    have o2 : Out [] (NMS4.take 1) 20 [CALL, [102], [50]] := (out_bi (s := CALL) (a := [[102]]) (b := [[50]]) (d := 1) (by decide) (by decide) (out_name (by decide) (Or.inr (by decide))) n2).up (by omega)
    obtain ⟨ps, e, h1, h2, h3, h5, h6⟩ := drawn_ok (L := [([102], [FUN, [120], PLUSW, [120], [120]])]) (k := 1) (run := [CALL, [102], [50]]) (cs := [FB1, [RUN, CALL, [102], [50]]])
      ⟨rfl, (fun x hx => (by rw [List.mem_singleton.1 hx]; exact ⟨_, rfl⟩)), (fun x hx => (by rw [List.mem_singleton.1 hx]; exact o1))⟩ o2 (.cons (fill_self (by decide)) (.cons (fill_self (by decide)) .nil)) (by decide)
    exact ⟨ps, e, h1, h2, ⟨nms_len h5, h6⟩, h3⟩
theorem fb_len {mn : Nat} : ∀ c ∈ ([FB1].take mn ++ [RUN :: (if 0 < mn then [CALL, [102], [50]] else [[50]])]), c.length ≤ 100 := by
  intro c hc
  rcases List.mem_append.1 hc with hc | hc
  · rw [List.mem_singleton.1 (List.mem_of_mem_take hc)]; decide
  · rw [List.mem_singleton.1 hc]; split <;> decide
end K5
set_option Elab.async false
set_option linter.all false
set_option maxRecDepth 100000
set_option maxHeartbeats 4000000
namespace K5
open PySem PySem.Spec PyProof.Rows L2 Evl Xl SX Mi
/-- a whole program is drawn -/
def spDrawn (d : Nat) : Sp := fun vs H Q _ => ∃ (p : Addr) (c mn : Nat), vs = [.ref p, .int mn, .int d] ∧ mn ≤ 4 ∧ PotAt p c H ∧ c + 1480000 ≤ 2000000 ∧ ∀ (q : Addr) (rs : List Addr) (ps : List Pt) (e : Tr) (c' : Nat) (H' : Hp), Kp p H H' → PotAt p c' H' → c' ≤ c + 1480000 →
  H' q = some (.lst (rs.map V.ref)) → LsAt H' rs (ps.map partW ++ [runWs e]) → PtsOk ps → RunOk ps e → ps.length ≤ 4 ∧ Bns ps e → (∀ c ∈ ps.map partW ++ [runWs e], c.length ≤ 100) → Q (.ref q) H'
/-- of one of three depths -/
def spDrawnX : Sp := fun vs H Q E => ∃ d : Nat, (1 ≤ d ∧ d ≤ 3) ∧ spDrawn d vs H Q E
theorem r_takeEq {σ : L2.St} {H : Hp} {Q : Bool → Hp → Prop} {ta : TA} {p : Addr} {c u : Nat} (hA : EvA ta σ H [.ref p, .int u]) (hu : 0 < u) (hu2 : u ≤ 1000) (hp : PotAt p c H) (hc : c ≤ 2000000)
    (kk : ∀ (b : Bool) (c' : Nat) (H' : Hp), Kp p H H' → PotAt p c' H' → c' ≤ c + 1 → Q b H') : tTest (tOp rEq (tCall spTk [] C8.E0 ta) (tC (.int 0))) σ H Q :=
  r_take hA hu hu2 hp hc fun r c' H' _ k hp' hc' => ⟨rfl, _, rfl, kk _ c' H' k hp' hc'⟩
theorem q_app {K : PySem.W.Frag} {te : TE} {σ : L2.St} {H : Hp} {D : Ends} {tz : TS} {j : Nat} {l : Addr} {xs0 : List V} (h : σ[j]? = some (some (.ref l))) (hl : H l = some (.lst xs0)) (k : te σ H fun y H2 => ∃ xs, H2 l = some (.lst xs) ∧ xs.length < sizeLine ∧ tz D σ (upd H2 l (.lst (xs ++ [y])))) :
    tSeq (tDrop (tBM K "list" rAppend (tVar j) (tCons te tNil))) tz D σ H := by
  refine ⟨_, h, Or.inl ⟨rfl, _, sq_of hl⟩, r_cons ?_⟩
  have : (fun (x : V) (H1 : Hp) => tNil σ H1 fun xs H2 => rAppend (.ref l) (x :: xs) H2 fun x H1 => tz D σ H1) = fun y H2 => ∃ (l' : Addr) (xs : List V) (y' : V), V.ref l = .ref l' ∧ [y] = [y'] ∧ H2 l' = some (.lst xs) ∧ xs.length < sizeLine ∧ tz D σ (upd H2 l' (.lst (xs ++ [y']))) := rfl
  show te σ H fun y H2 => ∃ (l' : Addr) (xs : List V) (y' : V), V.ref l = .ref l' ∧ [y] = [y'] ∧ H2 l' = some (.lst xs) ∧ xs.length < sizeLine ∧ tz D σ (upd H2 l' (.lst (xs ++ [y'])))
  have e : (fun y H2 => ∃ (l' : Addr) (xs : List V) (y' : V), V.ref l = .ref l' ∧ [y] = [y'] ∧ H2 l' = some (.lst xs) ∧ xs.length < sizeLine ∧ tz D σ (upd H2 l' (.lst (xs ++ [y'])))) = fun (y : V) (H2 : Hp) => ∃ xs, H2 l = some (.lst xs) ∧ xs.length < sizeLine ∧ tz D σ (upd H2 l (.lst (xs ++ [y]))) := by
    funext y H2
    refine propext ⟨fun ⟨l', xs, y', h1, h2, h3, h4, h5⟩ => ?_, fun ⟨xs, h3, h4, h5⟩ => ⟨l, xs, y, rfl, rfl, h3, h4, h5⟩⟩
    cases h1; cases h2; exact ⟨xs, h3, h4, h5⟩
  rw [e]; exact k
theorem s_app {K : PySem.W.Frag} {te : TE} {σ : L2.St} {H : Hp} {D : Ends} {j : Nat} {l : Addr} {xs0 : List V} (h : σ[j]? = some (some (.ref l))) (hl : H l = some (.lst xs0)) (k : te σ H fun y H2 => ∃ xs, H2 l = some (.lst xs) ∧ xs.length < sizeLine ∧ D.nx σ (upd H2 l (.lst (xs ++ [y])))) :
    tDrop (tBM K "list" rAppend (tVar j) (tCons te tNil)) D σ H := q_app (tz := fun D => D.nx) (D := D) h hl k
theorem nms_take {i : Nat} {n : Wd} (h : NMS4[i]? = some n) : NMS4.take (i + 1) = NMS4.take i ++ [n] := by rw [List.take_add_one, h]; rfl
theorem len_sz {xs : List V} {n : Nat} (h : xs.length ≤ n) (hn : n ≤ 1000) : xs.length < sizeLine := by rw [sizeLine_eq]; omega
section
variable {P : Program} {w : World} {K : PySem.W.Frag} {mg : Str → Option Value} {base : Heap} {f : Addr} {fd : FuncData}
structure Txt4 (K : PySem.W.Frag) (w : World) (mg : Str → Option Value) : Prop extends Txt3 K w mg where
  max_ : mg "max" = none
abbrev nDr : List Str := ["pot", "many", "deep", "lines", "parts", "falling", "name", "kind", "other", "fresh", "body", "goal", "found", "line"]
theorem scDr : FnScope nDr ["pot", "many", "deep"] (C8.fnScope (top 50)) := C8.fnScope_by (by decide +kernel)
theorem ok_drawnX (F : C8.Def K mg "_law_drawn_program" (top 50) f fd) (b : Binds K fd ["pot", "many", "deep"] []) (T : Txt4 K w mg) (cT : C8.Cal P w K mg base 1 "_law_take" spTk []) (cO : C8.Cal P w K mg base 2 "_law_of" (spOfG K) [])
    (cF : C8.Cal P w K mg base 3 "_law_fresh" spFresh []) (cW : C8.Cal P w K mg base 1 "_law_with" spWith []) (cK : C8.Cal P w K mg base 4 "_law_drawn_kind" (spKd 2) []) (cX : ∀ d, C8.Cal P w K mg base (15 + d) "_law_expression" (spEx d) []) (cA : C8.Cal P w K mg base 18 "_law_falling_part" spFall [])
    (cH : C8.Cal P w K mg base 1 "_law_held_calls" spHeld []) (cI : C8.Cal P w K mg base 3 "_law_filled" spFilled []) : C8.Cal P w K mg base 21 "_law_drawn_program" spDrawnX [] := by
  refine C8.cal0 F b .nil scDr (k := 20) (fun vs H Q E h => by obtain ⟨d, _, p, c, mn, rfl, _⟩ := h; rfl) (fun cdv A outer s H vs Q E hr h => ?_)
  obtain ⟨d, ⟨hd1, hd2⟩, p, c, mn, rfl, hmn, hp, hc, kk⟩ := h
  have cE := cX (d + 1)
  have cE' := cX (d + 2)
  refine ⟨_, pss_cons (ps_par3 (i := 3) (j := 4) (l := 5) (by rfl) scDr.nd rfl rfl rfl (by decide) (by decide) (by decide) rfl rfl rfl (pa_cons (pe_lst pa_nil) (pa_cons (pe_lst pa_nil) (pa_cons (pe_lst pa_nil) pa_nil))) (by rfl))
    (pss_cons (ps_for PassesOwn.never rfl (pi_list (pe_slice sl_list (pe_lst (pa_cons pe_str (pa_cons pe_str (pa_cons pe_str (pa_cons pe_str pa_nil))))) po_none (po_some (pv 1)))) (pg_name (i := 6) scDr.nd rfl (Or.inl rfl))
      (pss_one (ps_if (pt_cmpR op_eq (C8.pe_c cT hr (by omega) (by rfl) (pa_cons (pv 0) (pa_cons pe_int pa_nil))) pe_int (nomark _))
        (pss_cons (ps_set (i := 7) scDr.nd rfl (Or.inl rfl) (C8.pe_c cK hr (by omega) (by rfl) (pa_cons (pv 0) (pa_cons pe_int pa_nil))))
        (pss_cons (ps_expr (pe_bm PySem.F.plainAttrs_list PySem.F.slot_list_append PySem.F.type_list_append mt_append (pv 3) (pa_cons (C8.pe_c cA hr (by omega) (by rfl) (pa_cons (pv 0) (pa_cons (pv 6) (pa_cons (pv 7) (pa_cons (pv 4) pa_nil))))) pa_nil)))
        (pss_one (ps_expr (pe_bm PySem.F.plainAttrs_list PySem.F.slot_list_append PySem.F.type_list_append mt_append (pv 5) (pa_cons (pe_tup (pa_cons (pv 6) (pa_cons (pv 7) pa_nil))) pa_nil))))))
        (pss_cons (ps_par (i := 7) (j := 8) (by rfl) scDr.nd rfl rfl (by decide) rfl rfl (pa_cons (C8.pe_c cK hr (by omega) (by rfl) (pa_cons (pv 0) (pa_cons pe_int pa_nil))) (pa_cons (C8.pe_c cK hr (by omega) (by rfl) (pa_cons (pv 0) (pa_cons pe_int pa_nil))) pa_nil)) (by rfl))
        (pss_cons (ps_set (i := 9) scDr.nd rfl (Or.inl rfl) (C8.pe_c cF hr (by omega) (by rfl) (pa_cons (pv 0) pa_nil)))
        (pss_cons (ps_set (i := 10) scDr.nd rfl (Or.inl rfl) (C8.pe_c cE hr (by omega) (by rfl) (pa_cons (pv 0) (pa_cons (pv 8) (pa_cons (C8.pe_c cW hr (by omega) (by rfl) (pa_cons (C8.pe_c cH hr (by omega) (by rfl) (pa_cons (pv 5) pa_nil)) (pa_cons (pv 9) (pa_cons (pv 7) pa_nil)))) (pa_cons (pv 4) (pa_cons (pv 2) pa_nil)))))))
        (pss_cons (ps_expr (pe_bm PySem.F.plainAttrs_list PySem.F.slot_list_append PySem.F.type_list_append mt_append (pv 3) (pa_cons (pe_op op_cat (pe_lst (pa_cons pe_str (pa_cons (pv 6) (pa_cons pe_str (pa_cons (pv 9) pa_nil))))) (pv 10)) pa_nil)))
        (pss_one (ps_expr (pe_bm PySem.F.plainAttrs_list PySem.F.slot_list_append PySem.F.type_list_append mt_append (pv 4) (pa_cons (pe_tup (pa_cons (pv 6) (pa_cons (pe_tup (pa_cons pe_str (pa_cons (pv 7) (pa_cons (pv 8) pa_nil)))) pa_nil))) pa_nil)))))))))))
    (pss_cons (ps_set (i := 11) scDr.nd rfl (Or.inl rfl) (C8.pe_c cO hr (by omega) (by rfl) (pa_cons (pv 0) (pa_cons (pe_lst (pa_cons pe_str (pa_cons pe_str (pa_cons pe_str (pa_cons pe_str (pa_cons (C8.pe_c cK hr (by omega) (by rfl) (pa_cons (pv 0) (pa_cons pe_int pa_nil))) pa_nil)))))) pa_nil))))
    (pss_cons (ps_expr (pe_bm PySem.F.plainAttrs_list PySem.F.slot_list_append PySem.F.type_list_append mt_append (pv 3) (pa_cons (pe_op op_cat (pe_lst (pa_cons pe_str pa_nil)) (C8.pe_c cE' hr (by omega) (by rfl) (pa_cons (pv 0) (pa_cons (pv 11) (pa_cons (C8.pe_c cH hr (by omega) (by rfl) (pa_cons (pv 5) pa_nil)) (pa_cons (pv 4) (pa_cons (pe_op op_add (pv 2) pe_int) pa_nil))))))) pa_nil)))
    (pss_cons (ps_setLc (i := 12) (own := [("line", 13)]) (g := gName 13) (tt := tYes) rfl scDr.nd rfl rfl (sw_true rfl rfl rfl (by decide +kernel)) (pi_list (pv 3)) (blkOk_by (N := nDr) (sc := C8.fnScope (top 50)) (by decide +kernel))
      (fun _ _ _ _ _ => pg_name (i := 13) scDr.nd rfl (Or.inl rfl)) (fun _ _ _ _ _ => pts_nil) (fun _ _ _ _ _ => C8.pe_c cI hr (by omega) (by rfl) (pa_cons (pv 0) (pa_cons (pv 13) pa_nil))))
    (pss_cons (ps_if (pt_cmpR op_lt (pe_callB (cr_max rfl) (by rfl) T.max_ (by decide +kernel) (pa_cons (pe_lc (own := [("line", 13)]) (g := gName 13) (tt := tYes) (te := tCB (rLenS K) (tCons (tVar 13) tNil)) rfl scDr.nd (pi_list (pv 12)) (blkOk_by (N := nDr) (sc := C8.fnScope (top 50)) (by decide +kernel))
      (fun _ _ _ _ _ => pg_name (i := 13) scDr.nd rfl (Or.inl rfl)) (fun _ _ _ _ _ => pts_nil) (fun _ _ _ _ _ => pe_callB call_len_seq (by rfl) T.len_ boot_len (pa_cons (pv 13) pa_nil))) pa_nil)) pe_int (nomark _)) (pss_one (ps_ret (pv 12))) pss_nil)
    (pss_one (ps_ret (pe_op op_cat (pe_slice sl_list (pe_lst (pa_cons (pe_lst (pa_cons pe_str (pa_cons pe_str (pa_cons pe_str (pa_cons pe_str (pa_cons pe_str (pa_cons pe_str (pa_cons pe_str pa_nil)))))))) pa_nil)) po_none (po_some (pv 1)))
      (pe_lst (pa_cons (pe_op op_cat (pe_lst (pa_cons pe_str pa_nil)) (pe_ifExp (pt_cmpR op_gt (pv 1) pe_int (nomark _)) (pe_lst (pa_cons pe_str (pa_cons pe_str (pa_cons pe_str pa_nil)))) (pe_lst (pa_cons pe_str pa_nil)))) pa_nil)))))))))), ?_⟩
  have sz0 : ([] : List V).length ≤ sizeLine := by rw [sizeLine_eq]; show 0 ≤ _; omega
  refine ⟨sz0, fun l hl => ⟨sz0, fun lp hlp => ⟨sz0, fun lf hlf => ⟨_, _, _, rfl, ?_⟩⟩⟩⟩
  have e1 : Ex H (upd H l (.lst [])) := ex_put hl (Ex.refl H)
  have e2 := e1.trans (ex_put (o := .lst []) hlp (Ex.refl (upd H l (.lst []))))
  have e3 := e2.trans (ex_put (o := .lst []) hlf (Ex.refl _))
  have plp : lp ≠ l := fun z => by rw [z, upd_same] at hlp; cases hlp
  have plf : lf ≠ l := fun z => by rw [z, upd_ne (Ne.symm plp), upd_same] at hlf; cases hlf
  have ppf : lf ≠ lp := fun z => by rw [z, upd_same] at hlf; cases hlf
  have hl0 : (upd (upd (upd H l (.lst [])) lp (.lst [])) lf (.lst [])) l = some (.lst []) := by rw [upd_ne (Ne.symm plf), upd_ne (Ne.symm plp), upd_same]
  have hlp0 : (upd (upd (upd H l (.lst [])) lp (.lst [])) lf (.lst [])) lp = some (.lst []) := by rw [upd_ne (Ne.symm ppf), upd_same]
  have hlf0 : (upd (upd (upd H l (.lst [])) lp (.lst [])) lf (.lst [])) lf = some (.lst []) := upd_same
  have fp := fresh_back e1 hlp
  have ff := fresh_back e2 hlf
  have AP : ApartD p l lp lf := ⟨pot_ne hp hl, pot_ne hp fp, pot_ne hp ff, Ne.symm plp, Ne.symm plf, Ne.symm ppf⟩
  generalize upd (upd (upd H l (.lst [])) lp (.lst [])) lf (.lst []) = G0 at e3 hl0 hlp0 hlf0 ⊢
  have back : ∀ {G : Hp} {o : HO} {y : Addr}, H y = none → Kp p H G → Kp p H (upd G y o) := fun {G o y} hy kG x u hx hu => by
    have : x ≠ y := fun z => by rw [z, hy] at hu; cases hu
    rw [upd_ne this]; exact kG x u hx hu
  have cE1 : costE 1 = 12296 := by decide +kernel
  have cE2 : costE 2 = 39977 := by decide +kernel
  have cE3 : costE 3 = 123020 := by decide +kernel
  have cE4 : costE 4 = 372149 := by decide +kernel
  have cEd : costE d ≤ 123020 := by
    obtain h | h | h : d = 1 ∨ d = 2 ∨ d = 3 := by omega
    all_goals subst h; omega
  have lEd : lenE d ≤ 81866 := by
    have a1 : lenE 1 ≤ 81866 := by decide +kernel
    have a2 : lenE 2 ≤ 81866 := by decide +kernel
    have a3 : lenE 3 ≤ 81866 := by decide +kernel
    obtain h | h | h : d = 1 ∨ d = 2 ∨ d = 3 := by omega
    all_goals subst h; assumption
  have lE1 : lenE 1 ≤ 8200 := by decide +kernel
  have hk1 : costK 1 = 3 := by decide
  dsimp only [List.set]
  refine q_forLL (K := K) (xs := (NMS4.map fun x => V.str (S x)).take mn) (el_take (m := mn) (el_lst (ea_cons (ev_lit (x := [102]) (by decide)) (ea_cons (ev_lit (x := [103]) (by decide)) (ea_cons (ev_lit (x := [112, 97, 114, 116, 51]) (by decide)) (ea_cons (ev_lit (x := [104, 52]) (by decide)) ea_nil)))) (by show 4 ≤ 100000; decide)) rfl)
    (fun a i σ G => G a = some (.lst ((NMS4.map fun x => V.str (S x)).take mn)) ∧ (a ≠ p ∧ a ≠ l ∧ a ≠ lp ∧ a ≠ lf) ∧ (∃ y6 y7 y8 y9 y10, σ = [some (.ref p), some (.int mn), some (.int d), some (.ref l), some (.ref lp), some (.ref lf), y6, y7, y8, y9, y10, none, none, none]) ∧ Kp p H G ∧ ∃ c1 rs L, c1 ≤ c + i * 124000 ∧ DrI p l lp lf (NMS4.take i) (NMS4.take i) i c1 G rs L)
    (fun a H1 ha e4 hx => ?_) (fun a i σ' G h => sq_of h.1) (fun a i x σ' G hx ⟨hGa, hna, ⟨y6, y7, y8, y9, y10, hσ⟩, kG, c1, rs, L, hc1, I⟩ => ?_) (fun a σ' G ⟨hGa, hna, ⟨y6, y7, y8, y9, y10, hσ⟩, kG, c1, rs, L, hc1, I⟩ => ?_)
  · refine ⟨hx, ⟨pot_ne (hp.ex e3) ha, (fun z => (by rw [z, hl0] at ha; cases ha)), (fun z => (by rw [z, hlp0] at ha; cases ha)), (fun z => (by rw [z, hlf0] at ha; cases ha))⟩, ⟨_, _, _, _, _, rfl⟩, Keep.of (e3.trans e4), c, [], [], by omega, ⟨(hp.ex e3).ex e4, e4 _ _ hl0, trivial, ⟨rfl, (fun x hx => (by cases hx)), (fun x hx => (by cases hx))⟩, (fun x hx => (by cases hx)), ⟨[], e4 _ _ hlp0, Nat.le_refl _, (fun v hv => (by cases hv))⟩, ⟨[], e4 _ _ hlf0, Nat.le_refl _, (fun v hv => (by cases hv))⟩⟩⟩
  · subst hσ
    have hi4 : i < mn ∧ ∃ n, NMS4[i]? = some n ∧ x = .str (S n) := by
      rw [List.getElem?_take] at hx
      split at hx
      · rename_i hlt
        rw [List.getElem?_map] at hx
        cases z : NMS4[i]? with
        | none => rw [z] at hx; cases hx
        | some n => rw [z] at hx; exact ⟨hlt, n, rfl, (Option.some.inj hx).symm⟩
      · cases hx
    obtain ⟨himn, n, hn, rfl⟩ := hi4
    have hn4 : n ∈ NMS4 := List.mem_of_getElem? hn
    have nf := (nms4_free hn4).1
    have tk := nms_take hn
    have sub : ∀ z ∈ NMS4.take i, z ∈ NMS4.take (i + 1) := fun z hz => by rw [tk]; exact List.mem_append_left _ hz
    have nin : n ∈ NMS4.take (i + 1) := by rw [tk]; exact List.mem_append_right _ (List.mem_singleton.2 rfl)
    refine r_takeEq (u := 3) (ea_cons (ev_var rfl) (ea_cons ev_c ea_nil)) (by decide) (by decide) I.pot (by omega) fun bb c2 G2 k2 hp2 hc2 => ?_
    have I2 := I.keep AP k2 hp2
    cases bb with
    | true =>
      rw [if_pos rfl]
      refine q_set (r_kind (e := 1) (ea_cons (ev_var rfl) (ea_cons ev_c ea_nil)) rfl hp2 (by omega) fun v k c3 G3 k3 hp3 hc3 hv hkd => ?_)
      have I3 := I2.keep AP k3 hp3
      refine q_app rfl I3.lines (r_call (vs := [.ref p, .str (S n), v, .ref lp]) (ea_cons (ev_var rfl) (ea_cons (ev_var rfl) (ea_cons (ev_var rfl) (ea_cons (ev_var rfl) ea_nil)))) fun H5 e5 => ⟨p, lp, n, v, k, c3, i, NMS4.take i, rfl, nf, hp3.ex e5, by omega, hv.ex e5, hkd, I3.parts.ex e5, by omega, AP.pp, fun q ws c4 G6 k6 hp6 hc6 hq6 ho6 hl6 => ?_⟩)
      have k36 : Kp p G3 G6 := Kp.pre e5 k6
      have I6 := I3.keep AP k36 hp6
      refine ⟨_, I6.lines, by rw [sizeLine_eq]; rw [List.length_map, I6.at_.len, List.length_map]; have := congrArg List.length I6.pre.names; simp at this; omega, ?_⟩
      have sub2 : ∀ z ∈ n :: NMS4.take i, z ∈ NMS4.take i ++ [n] := fun z hz => by
        rcases List.mem_cons.1 hz with rfl | hz
        · exact List.mem_append_right _ (List.mem_singleton.2 rfl)
        · exact List.mem_append_left _ hz
      have I7 := I6.addLine AP (nm := n) (ws := FUN :: N0 :: ws) hq6 ⟨_, rfl⟩ (ho6.mono (fun _ h => h) sub2 (Nat.le_refl _)) (by simp; omega)
      have kG7 : Kp p H (upd G6 l (.lst (rs.map V.ref ++ [.ref q]))) := back hl (((kG.trans k2).trans k3).trans k36)
      have hv7 : KdAt (upd G6 l (.lst (rs.map V.ref ++ [.ref q]))) v k := (hv.keep hp3 k36).mono (TKeep.lst I6.lines)
      have hG7 : (upd G6 l (.lst (rs.map V.ref ++ [.ref q]))) a = some (.lst ((NMS4.map fun x => V.str (S x)).take mn)) := by rw [upd_ne hna.2.1]; exact k36 _ _ hna.1 (k3 _ _ hna.1 (k2 _ _ hna.1 hGa))
      generalize upd G6 l (.lst (rs.map V.ref ++ [.ref q])) = G7 at I7 kG7 hv7 hG7 ⊢
      have hf7 := I7.fall
      obtain ⟨nsf, hf7, _, _⟩ := hf7
      refine s_app rfl hf7 ⟨_, rfl, _, rfl, two_le, fun t ht => ?_⟩
      have e8 : Ex G7 (upd G7 t (.tup [.str (S n), v])) := ex_put ht (Ex.refl G7)
      have ht8 : (upd G7 t (.tup [.str (S n), v])) t = some (.tup [.str (S n), v]) := upd_same
      generalize upd G7 t (.tup [.str (S n), v]) = G8 at e8 ht8 ⊢
      have I8 := I7.keep AP (Keep.of e8) (I7.pot.ex e8)
      rw [← tk] at I8
      obtain ⟨ns8, g1, g2, I9⟩ := I8.addFall AP (M' := NMS4.take (i + 1)) (v := .ref t) (nm := n) sub ⟨nf, nin⟩ ⟨t, v, k, rfl, ht8, hv7.ex e8, by omega⟩
      exact ⟨ns8, g1, len_sz g2 (by omega), by rw [upd_ne hna.2.2.2]; exact e8 _ _ hG7, hna, ⟨_, _, _, _, _, rfl⟩, back ff (kG7.ex e8), c4, _, _, by omega, I9⟩
    | false =>
      rw [if_neg (by decide)]
      refine q_par (r_cons (r_kind (e := 1) (ea_cons (ev_var rfl) (ea_cons ev_c ea_nil)) rfl hp2 (by omega) fun v k c3 G3 k3 hp3 hc3 hv hkd => r_cons (r_kind (e := 1) (ea_cons (ev_var rfl) (ea_cons ev_c ea_nil)) rfl hp3 (by omega) fun u ku c4 G4 k4 hp4 hc4 hu hkud => ⟨_, _, rfl, ?_⟩)))
      refine q_set (r_fresh (ea_cons (ev_var rfl) ea_nil) hp4 (by omega) fun z c5 G5 hz k5 hp5 hc5 => ?_)
      have I5 := ((I2.keep AP k3 hp3).keep AP k4 hp4).keep AP k5 hp5
      have hv5 := (hv.keep hp3 k4).keep hp4 k5
      have hu5 := hu.keep hp4 k5
      refine q_dw (p := p) (R := fun c' ws => c' ≤ c5 + costE d ∧ Out [z] (NMS4.take i) (11 + d) ws ∧ ws.length ≤ lenE d) (fun Q1 kQ => ⟨_, rfl, _, rfl, r_cons (r_cons (r_call (vs := [.ref lf]) (ea_cons (ev_var rfl) ea_nil) fun H1 f1 => ⟨lf, i, NMS4.take i, rfl, I5.fall.ex f1, by omega, fun bq H2 f2 hb2 hN2 => ⟨_, rfl, _, rfl, ?_⟩⟩))⟩) fun q1 w1 c6 G6 k6 hp6 ⟨hc6, ho6, hl6⟩ hq6 n6 => ?_
      · have f12 := f1.trans f2
        refine ⟨bq, z, v, k, NmOk [] (NMS4.take i), i, rfl, hN2, by omega, hv5.ex f12, by omega, fun b3 H3 f3 hb3 hN3 => ⟨_, rfl, _, rfl, ?_⟩⟩
        have f13 := f12.trans f3
        exact ⟨p, b3, lp, u, ku, c5, i + 1, i, d, [z], NMS4.take i, rfl, rfl, by omega, by omega, hp5.ex f13, by omega, hu5.ex f13, hN3.sub (nm_more hz), I5.parts.ex f13, by omega, by omega, pot_ne (hp5.ex f12) hb3, AP.pp, fun q ws c' H' k' hp' hc' hq ho hl => kQ q ws c' H' (Kp.pre f13 k') hp' ⟨hc', ho, hl⟩ hq (words_ne hp' hq)⟩
      · have I6 := I5.keep AP k6 hp6
        have hv6 := hv5.keep hp5 k6
        have hu6 := hu5.keep hp5 k6
        refine q_app rfl I6.lines ((EvW.cat (w1 := [PART, n, FUN, z]) (w2 := w1) (.lst (el_lst (ea_cons (ev_lit (x := PART) (by decide)) (ea_cons (ev_var rfl) (ea_cons (ev_lit (x := FUN) (by decide)) (ea_cons (ev_var rfl) ea_nil)))) (by show 4 ≤ 100000; decide))) (.var rfl hq6) (by show 4 + w1.length ≤ _; omega) : EvW _ _ G6 _) G6 (Ex.refl G6) _ fun q7 G7 e7 h7 => ?_)
        have I7 := I6.keep AP (Keep.of e7) (hp6.ex e7)
        have sub3 : ∀ y ∈ NMS4.take i, y ∈ NMS4.take i ++ [n] := fun y hy => List.mem_append_left _ hy
        refine ⟨_, I7.lines, by rw [sizeLine_eq]; rw [List.length_map, I7.at_.len, List.length_map]; have := congrArg List.length I7.pre.names; simp at this; omega, ?_⟩
        have I8 := I7.addLine AP (nm := n) (ws := FUN :: z :: w1) h7 ⟨_, rfl⟩ ((out_fun hz ho6).mono (fun _ h => h) sub3 (by omega)) (by simp; omega)
        have kG8 : Kp p H (upd G7 l (.lst (rs.map V.ref ++ [.ref q7]))) := back hl ((((((kG.trans k2).trans k3).trans k4).trans k5).trans k6).ex e7)
        have hv8 : KdAt (upd G7 l (.lst (rs.map V.ref ++ [.ref q7]))) v k := (hv6.ex e7).mono (TKeep.lst I7.lines)
        have hu8 : KdAt (upd G7 l (.lst (rs.map V.ref ++ [.ref q7]))) u ku := (hu6.ex e7).mono (TKeep.lst I7.lines)
        have hG8 : (upd G7 l (.lst (rs.map V.ref ++ [.ref q7]))) a = some (.lst ((NMS4.map fun x => V.str (S x)).take mn)) := by rw [upd_ne hna.2.1]; exact e7 _ _ (k6 _ _ hna.1 (k5 _ _ hna.1 (k4 _ _ hna.1 (k3 _ _ hna.1 (k2 _ _ hna.1 hGa)))))
        generalize upd G7 l (.lst (rs.map V.ref ++ [.ref q7])) = G8 at I8 kG8 hv8 hu8 hG8 ⊢
        obtain ⟨nsf, hf8, _, _⟩ := I8.parts
        refine s_app rfl hf8 ⟨_, rfl, r_cons (r_kdF (i := 7) (j := 8) rfl rfl fun t1 G9 e9 ht1n ht1 => ⟨two_le, fun t2 ht2 => ?_⟩)⟩
        have e10 : Ex G9 (upd G9 t2 (.tup [.str (S n), .ref t1])) := ex_put ht2 (Ex.refl G9)
        have h10 : (upd G9 t2 (.tup [.str (S n), .ref t1])) t2 = some (.tup [.str (S n), .ref t1]) := upd_same
        generalize upd G9 t2 (.tup [.str (S n), .ref t1]) = G10 at e10 h10 ⊢
        have e810 := e9.trans e10
        have I10 := I8.keep AP (Keep.of e810) (I8.pot.ex e810)
        rw [← tk] at I10
        obtain ⟨ns9, g1, g2, I11⟩ := I10.addPart AP (M' := NMS4.take (i + 1)) (v := .ref t2) (nm := n) sub ⟨nf, nin⟩ ⟨t2, .ref t1, .f k ku, rfl, h10, ⟨t1, v, u, rfl, e10 _ _ ht1, hv8.ex e810, hu8.ex e810⟩, by simp only [Kd.dep]; omega⟩
        exact ⟨ns9, g1, len_sz g2 (by omega), by rw [upd_ne hna.2.2.1]; exact e810 _ _ hG8, hna, ⟨_, _, _, _, _, rfl⟩, back fp (kG8.ex e810), c6, _, _, by omega, I11⟩
  · subst hσ
    have hkl : ((NMS4.map fun x => V.str (S x)).take mn).length ≤ 4 := by rw [List.length_take, List.length_map]; have : NMS4.length = 4 := rfl; omega
    generalize ((NMS4.map fun x => V.str (S x)).take mn).length = kn at hkl I hc1
    refine q_set ⟨_, rfl, r_cons (r_lst (r_cons (r_c (r_cons (r_c (r_cons (r_c (r_cons (r_c (r_cons (r_kind (e := 1) (ea_cons (ev_var rfl) (ea_cons ev_c ea_nil)) rfl I.pot (by omega) fun v k c2 G2 k2 hp2 hc2 hv hkd => ⟨by show 5 ≤ sizeLine; rw [sizeLine_eq]; omega, fun gl hgl => ?_⟩)))))))))))⟩
    have I2 := I.keep AP k2 hp2
    have e3 : Ex G2 (upd G2 gl (.lst [.str (Str.ofString "n"), .str (Str.ofString "n"), .str (Str.ofString "n"), .str (Str.ofString "n"), v])) := ex_put hgl (Ex.refl G2)
    refine ⟨p, gl, c2, _, rfl, hp2.ex e3, by omega, upd_same, by show 0 < 5; decide, by show 5 ≤ 1000; decide, pot_ne hp2 hgl, fun y c3 G4 hy k4 hp4 hc4 => ?_⟩
    have k24 : Kp p G2 G4 := Kp.pre e3 k4
    have hy2 : ∃ kd, KdAt G4 y kd ∧ kd.dep ≤ 1 := by
      simp only [List.mem_cons, List.not_mem_nil, or_false] at hy
      rcases hy with rfl | rfl | rfl | rfl | rfl
      · exact ⟨.n, rfl, by decide⟩
      · exact ⟨.n, rfl, by decide⟩
      · exact ⟨.n, rfl, by decide⟩
      · exact ⟨.n, rfl, by decide⟩
      · exact ⟨k, hv.keep hp2 k24, hkd⟩
    obtain ⟨kd, hkdA, hkdd⟩ := hy2
    have I4 := I2.keep AP k24 hp4
    have cEd1 : costE (d + 1) ≤ 372149 := by
      have b1 : costE 2 ≤ 372149 := by omega
      have b2 : costE 3 ≤ 372149 := by omega
      have b3 : costE 4 ≤ 372149 := by omega
      obtain h | h | h : d = 1 ∨ d = 2 ∨ d = 3 := by omega
      all_goals subst h; assumption
    have lEd1 : lenE (d + 1) ≤ 247646 := by
      have a1 : lenE 2 ≤ 247646 := by decide +kernel
      have a2 : lenE 3 ≤ 247646 := by decide +kernel
      have a3 : lenE 4 ≤ 247646 := by decide +kernel
      obtain h | h | h : d = 1 ∨ d = 2 ∨ d = 3 := by omega
      all_goals subst h; assumption
    refine q_app rfl I4.lines (dw_cat (R2 := fun c1 w1 c' ws => c' ≤ c3 + costE (d + 1) ∧ Out [] (NMS4.take kn) (11 + (d + 1)) ws ∧ ws.length ≤ lenE (d + 1)) (dw_lit hp4 (ew1 (x := RUN) (by decide))) (fun c5 w5 G5 k5 hp5 h5 => fun Q1 kQ => ⟨_, rfl, _, rfl, r_cons (r_call (vs := [.ref lf]) (ea_cons (ev_var rfl) ea_nil) fun H1 f1 => ⟨lf, kn, NMS4.take kn, rfl, (I4.keep AP k5 hp5).fall.ex f1, by omega, fun bq H2 f2 hb2 hN2 => ⟨_, rfl, _, rfl, _, _, rfl, rfl, ?_⟩⟩)⟩) (fun c5 w5 c6 w6 h5 h6 => by rw [h5.2]; have := h6.2.2; show 1 + w6.length ≤ _; omega) _ fun q7 w7 c7 G7 k7 hp7 hR hq7 n7 => ?_)
    · obtain ⟨_, _, w8, ⟨rfl, rfl⟩, ⟨hc8, ho8, hl8⟩, rfl⟩ := hR
      have I7 := I4.keep AP k7 hp7
      refine ⟨_, I7.lines, by rw [sizeLine_eq]; rw [List.length_map, I7.at_.len, List.length_map]; have := congrArg List.length I7.pre.names; simp at this; omega, ?_⟩
      have qw7 : RUN :: w8 = [RUN] ++ w8 := rfl
      have kG7 : Kp p H G7 := ((kG.trans k2).trans k24).trans k7
      have e8l := I7.lines
      have all8 : LsAt (upd G7 l (.lst (rs.map V.ref ++ [.ref q7]))) (rs ++ [q7]) (L.map preL ++ [RUN :: w8]) := (I7.at_.app ⟨⟨hq7, by intro z; cases z⟩, trivial⟩ : LsAt G7 (rs ++ [q7]) (L.map preL ++ [RUN :: w8])).put_ e8l refs_ref
      have kG8 : Kp p H (upd G7 l (.lst (rs.map V.ref ++ [.ref q7]))) := back hl kG7
      have hp8 := I7.pot.put_ (o := .lst (rs.map V.ref ++ [.ref q7])) AP.lp_
      have hl8' : (upd G7 l (.lst (rs.map V.ref ++ [.ref q7]))) l = some (.lst ((rs ++ [q7]).map V.ref)) := by rw [upd_same, List.map_append]; rfl
      generalize upd G7 l (.lst (rs.map V.ref ++ [.ref q7])) = G8 at all8 kG8 hp8 hl8' ⊢
      have Ll : L.length ≤ 4 := by have := congrArg List.length I7.pre.names; simp at this; omega
      have sm : ∀ {M : List (Wd × List Wd)}, (∀ x ∈ M, x.2.length ≤ 82000) → sumL (M.map preL) ≤ M.length * 82002 := by
        intro M
        induction M with
        | nil => intro _; exact Nat.le_refl 0
        | cons a r ih =>
          intro h
          have h1 := ih fun x hx => h x (List.mem_cons_of_mem _ hx)
          have h2 := h a (List.mem_cons_self ..)
          have h3 : sumL ((a :: r).map preL) = (a.2.length + 1 + 1) + sumL (r.map preL) := by simp [sumL, preL]
          rw [h3, List.length_cons, Nat.succ_mul]; omega
      have sm1 : sumL (L.map preL ++ [RUN :: w8]) ≤ 580000 := by
        rw [sumL_snoc]
        have := sm I7.len
        have h4 : L.length * 82002 ≤ 4 * 82002 := Nat.mul_le_mul_right _ Ll
        show _ + (w8.length + 1) ≤ _
        omega
      have short : ∀ ln ∈ L.map preL ++ [RUN :: w8], ∀ z ∈ ln, z.length ≤ 1000 := by
        intro ln hln z hz
        rcases List.mem_append.1 hln with hln | hln
        · obtain ⟨x, hx, rfl⟩ := List.mem_map.1 hln
          rcases List.mem_cons.1 hz with rfl | hz
          · decide
          · rcases List.mem_cons.1 hz with rfl | hz
            · have hx1 : x.1 ∈ NMS4.take kn := by rw [← I7.pre.names]; exact List.mem_map_of_mem hx
              have := free_len (nms4_free (List.mem_of_mem_take hx1)).1
              omega
            · have := out_short (I7.pre.out x hx) z hz; omega
        · rw [List.mem_singleton.1 hln] at hz
          rcases List.mem_cons.1 hz with rfl | hz
          · decide
          · have := out_short ho8 z hz; omega
      refine q_set (r_fillAll (K := K) (i3 := 3) (j := 13) (vs := [13]) (p := p) (l := l) (c := c7) rfl hl8' AP.lp_ all8 hp8 short (by omega) (by simp; omega) (fun _ => rfl) (fun _ => rfl) (fun _ => rfl) fun q9 rs9 cs c9 G9 k9 hp9 hc9 hq9 at9 hf9 => ?_)
      have csl : cs.length = L.length + 1 := by
        have : ∀ {a b : List (List Wd)}, Fills a b → b.length = a.length := by
          intro a b h
          induction h with
          | nil => rfl
          | cons _ _ ih => simp [ih]
        rw [this hf9]; simp
      have kG9 := kG8.trans k9
      have EL : EvL (tLc (iList K (tVar 12)) (gName 13) tYes (tCB (rLenS K) (tCons (tVar 13) tNil)) [13]) ([some (.ref p), some (.int mn), some (.int d), some (.ref l), some (.ref lp), some (.ref lf), y6, y7, y8, y9, y10, some y, some (.ref q9), none] : L2.St) G9 ((cs.map fun c => (c.length : Int)).map V.int) :=
        el_lens (K := K) (i3 := 12) (j := 13) (vs := [13]) (l := q9) rfl hq9 at9 (by omega) (fun _ => rfl) (fun _ => rfl)
      refine q_ifR (r_maxlt (K := K) (ns := cs.map fun (c : List Wd) => (c.length : Int)) EL (by rw [List.length_map]; omega) fun m G10 e10 hm hall => ?_)
      by_cases hm101 : m < 101
      · rw [if_pos (decide_eq_true hm101)]
        have hle : ∀ c ∈ cs, c.length ≤ 100 := fun c hc => by
          have := hall (c.length : Int) (List.mem_map_of_mem (f := fun c => (c.length : Int)) hc)
          omega
        obtain ⟨ps, e, P1, P2, P3, P5⟩ := drawn_ok I7.pre (ho8.up (by omega)) hf9 hle
        rw [P3] at at9 hle
        exact r_ret ⟨_, rfl, kk q9 rs9 ps e c9 G10 (kG9.ex e10) (hp9.ex e10) (by omega) (e10 _ _ hq9) (at9.ex e10) P1 P2 ⟨nms_len P5.1, P5.2⟩ hle⟩
      · rw [if_neg (by rw [decide_eq_true_eq]; exact hm101)]
        obtain ⟨ps, e, P1, P2, P5, P3⟩ := fall_back (mn := mn)
        have P4 := fb_len (mn := mn)
        refine r_ret (r_op ?_)
        refine r_lst1 ((el_lst (ea_cons (ev_lit (x := PART) (by decide)) (ea_cons (ev_lit (x := [102]) (by decide)) (ea_cons (ev_lit (x := FUN) (by decide)) (ea_cons (ev_lit (x := [120]) (by decide)) (ea_cons (ev_lit (x := PLUSW) (by decide)) (ea_cons (ev_lit (x := [120]) (by decide)) (ea_cons (ev_lit (x := [120]) (by decide)) ea_nil))))))) (by show 7 ≤ 100000; decide)) G10 (Ex.refl G10) _ fun r1 G11 hr1 e11 hx11 => fun q2 hq2 => ?_)
        have e12 : Ex G11 (upd G11 q2 (.lst [.ref r1])) := ex_put hq2 (Ex.refl G11)
        refine ⟨_, rfl, _, rfl, q2, _, rfl, sq_of upd_same, fun q3 hq3 => ?_⟩
        have hcut : cutV [V.ref r1] none (some (mn : Int)) = [V.ref r1].take mn := by
          unfold cutV
          simp only [HT.sIx]
          rw [if_neg (by omega)]
          simp only [List.drop_zero, Nat.sub_zero, Int.toNat_natCast]
          by_cases z : mn ≤ 1
          · rw [Nat.min_eq_left (by simpa using z)]
          · rw [Nat.min_eq_right (by simp; omega), List.take_length, List.take_of_length_le (by simp; omega)]
        rw [hcut]
        have e13 : Ex G11 (upd (upd G11 q2 (.lst [.ref r1])) q3 (.lst ([V.ref r1].take mn))) := e12.trans (ex_put hq3 (Ex.refl _))
        have h13 : (upd (upd G11 q2 (.lst [.ref r1])) q3 (.lst ([V.ref r1].take mn))) q3 = some (.lst ([V.ref r1].take mn)) := upd_same
        generalize upd (upd G11 q2 (.lst [.ref r1])) q3 (.lst ([V.ref r1].take mn)) = G13 at e13 h13 ⊢
        have TI : EvW (tIf (tTest (tOp (rI0 fun i j => V.bl (decide (j < i))) (tVar 1) (tC (.int 0)))) (tLst (tCons (tC (.str (Str.ofString "call"))) (tCons (tC (.str (Str.ofString "f"))) (tCons (tC (.str (Str.ofString "2"))) tNil)))) (tLst (tCons (tC (.str (Str.ofString "2"))) tNil)))
            ([some (.ref p), some (.int mn), some (.int d), some (.ref l), some (.ref lp), some (.ref lf), y6, y7, y8, y9, y10, some y, some (.ref q9), none] : L2.St) G13 (if 0 < mn then [CALL, [102], [50]] else [[50]]) := fun H1 e Q q => by
          refine r_if ⟨_, rfl, _, _, rfl, rfl, _, rfl, ?_⟩
          dsimp only
          by_cases z : 0 < mn
          · rw [if_pos (decide_eq_true (by omega))]
            rw [if_pos z] at q
            exact (el_lst (ea_cons (ev_lit (x := CALL) (by decide)) (ea_cons (ev_lit (x := [102]) (by decide)) (ea_cons (ev_lit (x := [50]) (by decide)) ea_nil))) (by show 3 ≤ 100000; decide)) H1 (Ex.refl H1) _ fun q5 H2 _ e5 h5 => q q5 H2 e5 h5
          · rw [if_neg (by rw [decide_eq_true_eq]; omega)]
            rw [if_neg z] at q
            exact (ew1 (x := [50]) (by decide)) H1 (Ex.refl H1) _ fun q5 H2 _ e5 h5 => q q5 H2 e5 h5
        refine r_lst1 ((EvW.cat (w1 := [RUN]) (.lst (ew1 (by decide))) TI (by split <;> decide) : EvW _ _ G13 _) G13 (Ex.refl G13) _ fun r2 G14 e14 h14 => fun q6 hq6 => ?_)
        have e15 : Ex G14 (upd G14 q6 (.lst [.ref r2])) := ex_put hq6 (Ex.refl G14)
        have h15 : (upd G14 q6 (.lst [.ref r2])) q6 = some (.lst [.ref r2]) := upd_same
        generalize upd G14 q6 (.lst [.ref r2]) = G15 at e15 h15 ⊢
        refine ⟨q3, q6, _, _, rfl, rfl, e15 _ _ (e14 _ _ h13), h15, by rw [sizeLine_eq, List.length_take]; simp; omega, fun q7b hq7b => ?_⟩
        have e16 : Ex G15 (upd G15 q7b (.lst ([V.ref r1].take mn ++ [.ref r2]))) := ex_put hq7b (Ex.refl G15)
        have hr1' : (upd G15 q7b (.lst ([V.ref r1].take mn ++ [.ref r2]))) r1 = some (.lst (wV FB1)) := (((e13.trans e14).trans e15).trans e16) _ _ hx11
        have hr2' := (e15.trans e16) _ _ h14
        have eAll : Ex G9 (upd G15 q7b (.lst ([V.ref r1].take mn ++ [.ref r2]))) := ((((e10.trans e11).trans e13).trans e14).trans e15).trans e16
        refine kk q7b ([r1].take mn ++ [r2]) ps e c9 _ (kG9.ex eAll) (hp9.ex eAll) (by omega) (by rw [upd_same, List.map_append, List.map_take]; rfl) ?_ P1 P2 P5 (by rw [← P3]; exact P4)
        rw [← P3]
        refine LsAt.app ?_ ⟨⟨hr2', by intro z; cases z⟩, trivial⟩
        cases mn with
        | zero => exact trivial
        | succ m => exact ⟨⟨hr1', by decide⟩, by simp [LsAt]⟩
    · have f12 := f1.trans f2
      have I5 := I4.keep AP k5 hp5
      exact ⟨p, bq, lp, y, kd, c5, kn, kn, d + 1, [], NMS4.take kn, by push_cast; rfl, rfl, by omega, by omega, hp5.ex f12, by have := h5.1; omega, (hkdA.keep hp4 k5).ex f12, hN2, I5.parts.ex f12, by omega, by omega, pot_ne (hp5.ex f1) hb2, AP.pp, fun q ws c' H' k' hp' hc' hq ho hl => kQ q ws c' H' (Kp.pre f12 k') hp' ⟨by have := h5.1; omega, ho, hl⟩ hq (words_ne hp' hq)⟩
end
end K5
set_option Elab.async false
set_option linter.all false
set_option maxRecDepth 100000
set_option maxHeartbeats 4000000
namespace K5
open PySem PySem.Spec PyProof.Rows L2 Evl Xl SX Mi
abbrev rJ (K : PySem.W.Frag) : V → List V → Hp → VK → Prop := fun x xs H Q => ∃ a p, ∃ ys : List Str, x = .str a ∧ xs = [.ref p] ∧ (SqL K H p (ys.map V.str) ∨ SqT K H p (ys.map V.str)) ∧ (ys.map (·.length)).sum + ys.length * a.length ≤ 16777216 ∧ Q (.str (Txt.join a ys)) H
def chL (ws : List Wd) : Nat := (ws.map List.length).sum
theorem join_S {y : Wd} {ws : List Wd} : Txt.join (S y) (ws.map S) = S (TL.joinL y ws) := by
  rw [TL.join_eq]
  have h := TL.tl_join (S y) (ws.map S)
  have ht : ∀ x : Wd, TL.tl (S x) = x := fun x => by simp [TL.tl, S]
  have hb : ∀ s : Str, S (TL.tl s) = s := fun s => by cases s; simp [TL.tl, S]
  rw [← hb ((S y).join (ws.map S)), h, ht]
  congr 2
  rw [List.map_map]
  conv => rhs; rw [← List.map_id ws]
  exact List.map_congr_left fun x _ => ht x
/-- a list of texts joined -/
theorem ev_joinW {K : PySem.W.Frag} {te : TE} {σ : L2.St} {H : Hp} {s : Str} {y : Wd} {ws : List Wd} {p : Addr} (hs : s = S y) (h : Ev te σ H (.ref p)) (hp : H p = some (.lst (wV ws))) (hl : chL ws + ws.length * y.length ≤ 16000000) : Ev (tM1 (rJ K) (tC (.str s)) te) σ H (.str (S (TL.joinL y ws))) := fun H1 e Q q =>
  ⟨⟨_, rfl⟩, h H1 e _ fun H2 e2 => ⟨_, p, ws.map S, rfl, rfl, .inl (sq_of (by rw [List.map_map]; exact (e.trans e2) _ _ hp)), by
    subst hs
    rw [List.map_map, List.length_map, S_len]
    have : (List.map ((fun x => x.length) ∘ S) ws).sum = chL ws := rfl
    rw [this]; omega, by subst hs; rw [join_S]; exact q H2 e2⟩⟩
theorem ev_joinWL {K : PySem.W.Frag} {te : TE} {σ : L2.St} {H : Hp} {s : Str} {y : Wd} {ws : List Wd} (hs : s = S y) (h : EvL te σ H (wV ws)) (hl : chL ws + ws.length * y.length ≤ 16000000) : Ev (tM1 (rJ K) (tC (.str s)) te) σ H (.str (S (TL.joinL y ws))) := fun H1 e Q q =>
  ⟨⟨_, rfl⟩, h H1 e _ fun p H2 _ e2 hp => ⟨_, p, ws.map S, rfl, rfl, .inl (sq_of (by rw [List.map_map]; exact hp)), by
    subst hs
    rw [List.map_map, List.length_map, S_len]
    have : (List.map ((fun x => x.length) ∘ S) ws).sum = chL ws := rfl
    rw [this]; omega, by subst hs; rw [join_S]; exact q H2 e2⟩⟩
/-- each line's words joined -/
theorem el_joins {K : PySem.W.Frag} {σ : L2.St} {H : Hp} {l : Addr} {rs : List Addr} {cs : List (List Wd)} {tl : TE} {j : Nat} {vs : List Nat} {s : Str} (hs : s = S [32]) (h3 : Ev tl σ H (.ref l)) (hl : H l = some (.lst (rs.map V.ref))) (at_ : LsAt H rs cs) (hn : cs.length ≤ 100) (hw : ∀ c ∈ cs, chL c + c.length ≤ 10000)
    (sj : ∀ x, ((wipe σ vs).set j (some x))[j]? = some (some x)) (sw : ∀ x, wipe ((wipe σ vs).set j (some x)) vs = wipe σ vs) :
    EvL (tLc (iList K tl) (gName j) tYes (tM1 (rJ K) (tC (.str s)) (tVar j)) vs) σ H (wV (cs.map (TL.joinL [32]))) := fun H1 e1 Q q => h3 H1 e1 _ fun H1' e1' => by
  refine ⟨l, rfl, ⟨_, sq_of (e1' _ _ (e1 _ _ hl))⟩, fun D hD => ?_⟩
  have ln : rs.length = cs.length := at_.len
  have at1 := (at_.ex e1).ex e1'
  refine comp_walk (body := fun x H' Nx => gName j x (wipe σ vs) H' fun σ2 H2 => wipe σ2 vs = wipe σ vs ∧ tYes σ2 H2 fun b H3 => if b = true then tM1 (rJ K) (tC (.str s)) (tVar j) σ2 H3 (fun y H4 => ∃ acc, H4 D = some (.lst acc) ∧ acc.length < sizeLine ∧ Nx (upd H4 D (.lst (acc ++ [y])))) else Nx H3)
    (walk_list (K := K) (a := l) (xs := rs.map V.ref)) (fun i G => Ex H1' G ∧ G D = some (.lst (wV ((cs.take i).map (TL.joinL [32])))))
    ⟨ex_put hD (Ex.refl H1'), upd_same⟩ (fun i G _ h => sq_of (h.1 _ _ (e1' _ _ (e1 _ _ hl)))) (fun i G x G' hi hpv hy => ?_) (fun G hpv => ?_)
  · obtain ⟨rfl, hx⟩ := hy
    obtain ⟨eG, hGD⟩ := hpv
    obtain ⟨r, hr, rfl⟩ : ∃ r, rs[i]? = some r ∧ x = .ref r := by
      rw [List.getElem?_map] at hx
      cases z : rs[i]? with
      | none => rw [z] at hx; cases hx
      | some r => rw [z] at hx; exact ⟨r, rfl, (Option.some.inj hx).symm⟩
    obtain ⟨w0, hw0, hr0⟩ := at1.at_ hr
    have htk : cs.take (i + 1) = cs.take i ++ [w0] := by rw [List.take_add_one, hw0]; rfl
    rw [List.length_map, ln] at hi
    have hw1 := hw w0 (List.mem_of_getElem? hw0)
    refine ⟨sw _, (ev_joinW (K := K) hs (ev_var (sj _)) (eG _ _ hr0) (by simp; omega) : Ev _ _ G' _) G' (Ex.refl G') _ fun H4 e4 => ⟨_, e4 _ _ hGD, ?_, ex_put hD (eG.trans e4), ?_⟩⟩
    · rw [sizeLine_eq]; simp; omega
    · rw [upd_same, htk]; simp
  · obtain ⟨eG, hGD⟩ := hpv
    rw [List.length_map, ln, List.take_length] at hGD
    exact q D G (fresh_back e1' hD) (e1'.trans eG) hGD
/-- the text of lines -/
def spPText : Sp := fun vs H Q _ => ∃ (l : Addr) (rs : List Addr) (cs : List (List Wd)), vs = [.ref l] ∧ H l = some (.lst (rs.map V.ref)) ∧ LsAt H rs cs ∧ cs.length ≤ 100 ∧ (∀ c ∈ cs, chL c + c.length ≤ 10000) ∧ chL (cs.map (TL.joinL [32])) ≤ 1000000 ∧ ∀ H', Ex H H' → Q (.str (S (textT (cs.map (TL.joinL [32]))))) H'
section
variable {P : Program} {w : World} {K : PySem.W.Frag} {mg : Str → Option Value} {base : Heap} {f : Addr} {fd : FuncData}
abbrev nPx : List Str := ["lines", "line"]
theorem scPx : FnScope nPx ["lines"] (C8.fnScope (top 53)) := C8.fnScope_by (by decide +kernel)
theorem ok_ptext (F : C8.Def K mg "_law_program_text" (top 53) f fd) (b : Binds K fd ["lines"] []) (T : Txt4 K w mg) : C8.Cal P w K mg base 1 "_law_program_text" spPText [] := by
  refine C8.cal0 F b .nil scPx (fun vs H Q E h => by obtain ⟨l, rs, cs, rfl, _⟩ := h; rfl) (fun cdv A outer s H vs Q E hr h => ?_)
  obtain ⟨l, rs, cs, rfl, hl, at_, hn, hw, hs, k⟩ := h
  refine ⟨_, pss_one (ps_ret (pe_join pe_str (pe_lc (own := [("line", 1)]) (g := gName 1) (tt := tYes) (te := tM1 (rJ K) (tC (.str " ")) (tVar 1)) rfl scPx.nd (pi_list (pv 0)) (blkOk_by (N := nPx) (sc := C8.fnScope (top 53)) (by decide +kernel))
    (fun _ _ _ _ _ => pg_name (i := 1) scPx.nd rfl (Or.inl rfl)) (fun _ _ _ _ _ => pts_nil) (fun _ _ _ _ _ => pe_join pe_str (pv 1))))), ?_⟩
  have J : EvL (tLc (iList K (tVar 0)) (gName 1) tYes (tM1 (rJ K) (tC (.str " ")) (tVar 1)) [1]) (start nPx [.ref l]) H (wV (cs.map (TL.joinL [32]))) := el_joins (by decide) (ev_var rfl) hl at_ hn hw (fun _ => rfl) (fun _ => rfl)
  exact s_ret (ev_joinWL (K := K) (y := [10]) (by decide) J (by simp; omega)) fun H1 e1 => k H1 e1
end
end K5
set_option Elab.async false
set_option linter.all false
set_option maxRecDepth 100000
set_option maxHeartbeats 4000000
namespace K5
open PySem PySem.Spec PyProof.Rows L2 Evl Xl SX Mi
/-- the pot of a place -/
def spPotG (K : PySem.W.Frag) : Sp := fun vs H Q _ => ∃ (a : Addr) (ns : List Int) (pl : Nat), vs = [.ref a, .int pl] ∧ SqL K H a (ns.map V.int) ∧ ns.length ≤ 63 ∧ pl ≤ 2 ∧ ∀ (p : Addr) (H' : Hp), H p = none → Ex H H' → PotAt p 0 H' → Q (.ref p) H'
section
variable {P : Program} {w : World} {K : PySem.W.Frag} {mg : Str → Option Value} {base : Heap} {f : Addr} {fd : FuncData}
abbrev nPot : List Str := ["script", "place", "cell", "own", "small"]
theorem scPot : FnScope nPot ["script", "place"] (C8.fnScope (top 38)) := C8.fnScope_by (by decide +kernel)
theorem ok_pot (F : C8.Def K mg "_law_pot" (top 38) f fd) (b : Binds K fd ["script", "place"] []) (T : Txt3 K w mg) : C8.Cal P w K mg base 1 "_law_pot" (spPotG K) [] := by
  refine C8.cal0 F b .nil scPot (fun vs H Q E h => by obtain ⟨a, ns, pl, rfl, _⟩ := h; rfl) (fun cdv A outer s H vs Q E hr h => ?_)
  obtain ⟨a, ns, pl, rfl, ha, hn, hpl, k⟩ := h
  have plw : (pl : Int).natAbs < 2 ^ 20 := by rw [Int.natAbs_natCast]; omega
  have pl9 : (9913 * (pl : Int)).natAbs < 2 ^ 20 := nat_lt (m := 100000) (by omega) (by omega) (by decide)
  refine ⟨_, pss_cons (ps_set (i := 2) scPot.nd rfl (Or.inl rfl) (pe_ifExp (pt_cmpR op_lt (pv 1) (pe_callB call_len_seq (by rfl) T.len_ boot_len (pa_cons (pv 0) pa_nil)) (nomark _)) (pe_ix ix_list (pv 0) (pv 1) (fun _ _ => rfl))
      (pe_op op_add (pe_op op_add (pe_op op_mod (pe_callTy call_int1 (by rfl) T.int_ (by decide +kernel) (pa_cons (pe_callB (cr_sum rfl) (by rfl) T.sum_ (by decide +kernel) (pa_cons (pe_slice sl_list (pv 0) po_none (po_some pe_int)) pa_nil)) pa_nil)) pe_int) (pe_op op_mulW pe_int (pv 1))) pe_int)))
    (pss_cons (ps_set (i := 3) scPot.nd rfl (Or.inl rfl) (pe_op op_mulW (pe_op op_mod (pe_callTy call_int1 (by rfl) T.int_ (by decide +kernel) (pa_cons (pe_callB call_abs (by rfl) T.abs_ (by decide +kernel) (pa_cons (pv 2) pa_nil)) pa_nil)) (pe_op op_powB (pe_op op_powB pe_int pe_int) pe_int))
      (pe_callTy call_int1 (by rfl) T.int_ (by decide +kernel) (pa_cons (pe_cmpR op_ge (pe_callB call_abs (by rfl) T.abs_ (by decide +kernel) (pa_cons (pv 2) pa_nil)) (pe_op op_powB pe_int pe_int) (nomark _)) pa_nil))))
    (pss_cons (ps_set (i := 4) scPot.nd rfl (Or.inl rfl) (pe_op op_mod (pe_callTy call_int1 (by rfl) T.int_ (by decide +kernel) (pa_cons (pv 2) pa_nil)) pe_int))
    (pss_one (ps_ret (pe_lst (pa_cons (pv 3) (pa_cons (pe_op op_mod (pe_callTy call_int1 (by rfl) T.int_ (by decide +kernel) (pa_cons (pe_op op_add (pe_op op_add (pe_op op_mulW (pv 4) pe_int) (pe_op op_mulW (pe_op op_mulW pe_int (pv 1)) (pv 1))) pe_int) pa_nil)) pe_int) (pa_cons pe_int pa_nil)))))))), ?_⟩
  have hcell : ∃ cell : Int, Ev (tIf (tTest (tOp (rI0 fun i j => V.bl (decide (i < j))) (tVar 1) (tCB (rLenS K) (tCons (tVar 0) tNil)))) (tOp (rIxL K) (tVar 0) (tVar 1))
      (tOp (rI0 fun i j => V.int (i + j)) (tOp (rI0 fun i j => V.int (i + j)) (tOp (rI (fun _ j => 0 < j) fun i j => V.int (i % j)) (tCB (fun xs H Q => (∃ i, xs = [V.int i] ∧ Q (V.int i) H) ∨ ∃ k, xs = [V.bl k] ∧ Q (V.int (if k = true then 1 else 0)) H) (tCons (tCB (rSum K) (tCons (tSl (rSlL K) (tVar 0) tNoPart (tPart (tC (V.int 1)))) tNil)) tNil)) (tC (.int 1000003))) (tOp (rI CMulW fun i j => V.int (i * j)) (tC (.int 1367)) (tVar 1))) (tC (.int 925))))
      (start nPot [V.ref a, .int (pl : Nat)]) H (.int cell) := by
    by_cases hlt : pl < ns.length
    · have hx : (ns.map V.int)[pl]? = some (.int ns[pl]) := by rw [List.getElem?_map, List.getElem?_eq_getElem hlt]; rfl
      exact ⟨ns[pl], ev_if (b := true) (et_is (et_test (ev_op (ev_var rfl) (ev_len (ev_var rfl) ha) rv_I0)) (by simp; omega)) (fun _ => ev_op (ev_var rfl) (ev_var rfl) (rv_ixL ha (atI_nat hx))) fun z => (by cases z)⟩
    · obtain ⟨ms, hms⟩ : ∃ ms : List Int, cutV (ns.map V.int) none (some 1) = ms.map V.int := by
        refine ⟨ns.take 1, ?_⟩
        unfold cutV
        simp only [HT.sIx]
        rw [if_neg (by decide)]
        simp only [List.drop_zero, Nat.sub_zero]
        cases ns with
        | nil => rfl
        | cons c r => simp
      refine ⟨ms.sum % 1000003 + 1367 * (pl : Int) + 925, ev_if (b := false) (et_is (et_test (ev_op (ev_var rfl) (ev_len (ev_var rfl) ha) rv_I0)) (by simp; omega)) (fun z => (by cases z)) fun _ => ?_⟩
      refine ev_op (ev_op (ev_op (ev_int1 (i := ms.sum) ?_) ev_c (rv_I (by decide))) (ev_op ev_c (ev_var rfl) (rv_I (wide_mul (a := 20) (b := 20) (by decide) plw (by decide) (by decide) (by decide)))) rv_I0) ev_c rv_I0
      exact fun H1 e Q q => (el_sl (K := K) (lo := none) (hi := some 1) (ev_var rfl) eo_none (eo_some ev_c) ha) H1 e _ fun p H2 hp e2 hx => ⟨p, ms, rfl, sq_of (by rw [← hms]; exact hx), q H2 e2⟩
  obtain ⟨cell, hc⟩ := hcell
  refine q_asg hc fun H1 e1 => ?_
  refine q_asg (v := .int (((if cell < 0 then -cell else cell) % ((10 ^ (60 : Int).toNat) ^ (5 : Int).toNat)) * (if decide ((10 : Int) ^ (18 : Int).toNat ≤ (if cell < 0 then -cell else cell)) = true then 1 else 0))) ?_ fun H2 e2 => ?_
  · refine ev_op (ev_op (ev_int1 (ev_abs (ev_var rfl))) (ev_op (ev_op ev_c ev_c (rv_I (by decide +kernel))) ev_c (rv_I (by decide +kernel))) (rv_I (by decide +kernel))) (ev_intB (ev_op (ev_abs (ev_var rfl)) (ev_op ev_c ev_c (rv_I (by decide +kernel))) rv_I0)) (rv_I (wide_mul (a := 1000) (b := 2) ?_ ?_ (by decide) (by decide) (by decide)))
    · exact nat_lt (Int.emod_nonneg _ (by decide +kernel)) (Int.emod_lt_of_pos _ (by decide +kernel)) (by decide +kernel)
    · exact (bit01 _).2
  · refine q_asg (v := .int (cell % 2305843009213693951)) (ev_op (ev_int1 (ev_var rfl)) ev_c (rv_I (by decide))) fun H3 e3 => ?_
    have s0 : 0 ≤ cell % 2305843009213693951 := Int.emod_nonneg _ (by decide)
    have s1 : cell % 2305843009213693951 < 2305843009213693951 := Int.emod_lt_of_pos _ (by decide)
    refine (el_lst (ea_cons (ev_var rfl) (ea_cons (ev_op (ev_int1 (ev_op (ev_op (ev_op (ev_var rfl) ev_c (rv_I (wide_mul (a := 61) (b := 30) ?_ (by decide) (by decide) (by decide) (by decide)))) (ev_op (ev_op ev_c (ev_var rfl) (rv_I (wide_mul (a := 20) (b := 20) (by decide) plw (by decide) (by decide) (by decide)))) (ev_var rfl) (rv_I (wide_mul (a := 20) (b := 20) pl9 plw (by decide) (by decide) (by decide)))) rv_I0) ev_c rv_I0)) ev_c (rv_I (by decide))) (ea_cons ev_c ea_nil))) (by show 3 ≤ 100000; decide)) H3 (Ex.refl H3) _ fun p H4 hp e4 hx => ?_
    · exact nat_lt s0 s1 (by decide)
    · have e13 := (e1.trans e2).trans e3
      refine k p H4 (fresh_back e13 hp) (e13.trans e4) ⟨_, _, hx, ?_, Int.emod_nonneg _ (by decide), Int.emod_lt_of_pos _ (by decide)⟩
      exact Int.mul_nonneg (Int.emod_nonneg _ (by decide +kernel)) (bit01 _).1
end
end K5
set_option Elab.async false
set_option linter.all false
set_option maxRecDepth 100000
set_option maxHeartbeats 4000000
namespace K5
open PySem PySem.Spec PyProof.Rows L2 Evl Xl SX Mi
theorem q_forR {ta : TA} {g : TG} {tu tz : TS} {D : Ends} {σ : L2.St} {H : Hp} {n : Nat} (hA : EvA ta σ H [.int n]) (hn : n < 1000000) (Pv : Nat → L2.St → Hp → Prop) (h0 : ∀ H1, Ex H H1 → Pv 0 σ H1)
    (hi : ∀ (i : Nat) (σ' : L2.St) (G : Hp), i < n → Pv i σ' G → g (.int i) σ' G fun σ2 H2 => tu { nx := Pv (i + 1), rt := D.rt, bk := tz D, ct := Pv (i + 1) } σ2 H2) (hz : ∀ (σ' : L2.St) (G : Hp), Pv n σ' G → tz D σ' G) : tSeq (tFor (iRng1 ta) g tu) tz D σ H :=
  hA H (Ex.refl H) _ fun H1 e1 => ⟨n, rfl, by omega, by omega, for_range (D := { D with nx := tz D }) Pv (h0 H1 e1) (fun i σ' G h1 h2 => by rw [Int.zero_add]; exact hi i σ' G (by simpa using h1) h2) (fun σ' G h => hz σ' G (by simpa using h))⟩
structure Txt5 (K : PySem.W.Frag) (w : World) (mg : Str → Option Value) : Prop extends Txt4 K w mg where
  range_ : mg "range" = none
  min_ : mg "min" = none
  sorted_ : mg "sorted" = none
/-- some of a list, without one twice -/
def spSome (K : PySem.W.Frag) : Sp := fun vs H Q _ => ∃ (p a : Addr) (c m : Nat) (xs : List V), vs = [.ref p, .ref a, .int m] ∧ PotAt p c H ∧ c + m ≤ 2000000 ∧ H a = some (.lst xs) ∧ xs.length ≤ 100 ∧ m ≤ xs.length ∧
  ∀ (q : Addr) (ys rs : List V) (c' : Nat) (H' : Hp), Keep (fun x => x = p) H H' → PotAt p c' H' → c' ≤ c + m → H' q = some (.lst ys) → ys.length = m → (ys ++ rs).Perm xs → Q (.ref q) H'
abbrev nSo : List Str := ["pot", "pool", "many", "rest", "found", "lap"]
theorem scSo : FnScope nSo ["pot", "pool", "many"] (C8.fnScope (top 41)) := C8.fnScope_by (by decide +kernel)
theorem perm_pop {ys rs : List V} {k : Nat} {y : V} (h : rs[k]? = some y) : ((ys ++ [y]) ++ rs.eraseIdx k).Perm (ys ++ rs) := by
  obtain ⟨hk, e⟩ := List.getElem?_eq_some_iff.1 h
  rw [List.append_assoc]
  refine List.Perm.append_left ys ?_
  show (y :: rs.eraseIdx k).Perm rs
  have h1 := List.eraseIdx_eq_take_drop_succ rs k
  rw [h1]
  have h2 : rs = rs.take k ++ y :: rs.drop (k + 1) := by rw [← e, ← List.drop_eq_getElem_cons hk, List.take_append_drop]
  conv => rhs; rw [h2]
  exact List.perm_middle.symm
section
variable {P : Program} {w : World} {K : PySem.W.Frag} {mg : Str → Option Value} {base : Heap} {f : Addr} {fd : FuncData}
theorem ok_some (F : C8.Def K mg "_law_some" (top 41) f fd) (b : Binds K fd ["pot", "pool", "many"] []) (T : Txt5 K w mg) (cT : C8.Cal P w K mg base 1 "_law_take" spTk []) : C8.Cal P w K mg base 2 "_law_some" (spSome K) [] := by
  refine C8.cal0 F b .nil scSo (fun vs H Q E h => by obtain ⟨p, a, c, m, xs, rfl, _⟩ := h; rfl) (fun cdv A outer s H vs Q E hr h => ?_)
  obtain ⟨p, a, c, m, xs, rfl, hp, hc, ha, hx, hm, kk⟩ := h
  refine ⟨_, pss_cons (ps_par (i := 3) (j := 4) (by rfl) scSo.nd rfl rfl (by decide) rfl rfl (pa_cons (pe_callTy call_list_of (by rfl) T.list_ (by decide +kernel) (pa_cons (pv 1) pa_nil)) (pa_cons (pe_lst pa_nil) pa_nil)) (by rfl))
    (pss_cons (ps_for PassesOwn.never rfl (pi_range1 (by rfl) T.range_ (pa_cons (pv 2) pa_nil)) (pg_name (i := 5) scSo.nd rfl (Or.inl rfl))
      (pss_one (ps_expr (pe_bm PySem.F.plainAttrs_list PySem.F.slot_list_append PySem.F.type_list_append mt_append (pv 4) (pa_cons (pe_bm PySem.F.plainAttrs_list PySem.F.slot_list_pop PySem.F.type_list_pop mt_popAt (pv 3) (pa_cons (C8.pe_c cT hr (by decide) (by rfl) (pa_cons (pv 0) (pa_cons (pe_callB call_len_seq (by rfl) T.len_ boot_len (pa_cons (pv 3) pa_nil)) pa_nil))) pa_nil)) pa_nil)))))
    (pss_one (ps_ret (pv 4)))), ?_⟩
  refine q_par (r_cons (r_cb ⟨_, rfl, a, xs, rfl, .inl (SqL.of ha), fun l hl => r_cons (r_lst ⟨by rw [sizeLine_eq]; show 0 ≤ _; omega, fun q hq => ⟨_, _, rfl, ?_⟩⟩)⟩))
  have e2 : Ex H (upd (upd H l (.lst xs)) q (.lst [])) := ex_put (fresh_back (ex_put hl (Ex.refl H)) hq) (ex_put hl (Ex.refl H))
  have hlq : l ≠ q := fun z => by rw [← z, upd_same] at hq; cases hq
  have hl2 : (upd (upd H l (.lst xs)) q (.lst [])) l = some (.lst xs) := by rw [upd_ne hlq, upd_same]
  have hq2 : (upd (upd H l (.lst xs)) q (.lst [])) q = some (.lst []) := upd_same
  have hqH := fresh_back (ex_put hl (Ex.refl H)) hq
  have hlp : l ≠ p := pot_ne hp hl
  have hqp : q ≠ p := pot_ne hp hqH
  generalize upd (upd H l (.lst xs)) q (.lst []) = G0 at e2 hl2 hq2 ⊢
  have back : ∀ {G : Hp} {o : HO} {y : Addr}, H y = none → Kp p H G → Kp p H (upd G y o) := fun {G o y} hy kG x u hx hu => by
    have : x ≠ y := fun z => by rw [z, hy] at hu; cases hu
    rw [upd_ne this]; exact kG x u hx hu
  dsimp only [List.set]
  refine q_forR (n := m) (ea_cons (ev_var rfl) ea_nil) (by omega) (fun i σ G => (∃ z, σ = [some (.ref p), some (.ref a), some (.int m), some (.ref l), some (.ref q), z]) ∧ Kp p H G ∧ ∃ ys rs c1, PotAt p c1 G ∧ c1 ≤ c + i ∧ G l = some (.lst rs) ∧ G q = some (.lst ys) ∧ ys.length = i ∧ (ys ++ rs).Perm xs)
    (fun H1 e1 => ⟨⟨_, rfl⟩, Keep.of (e2.trans e1), [], xs, c, (hp.ex e2).ex e1, by omega, e1 _ _ hl2, e1 _ _ hq2, rfl, List.Perm.refl _⟩) (fun i σ' G hi ⟨⟨z, hσ⟩, kG, ys, rs, c1, hp1, hc1, hl1, hq1, hy, pm⟩ => ?_) fun σ' G ⟨⟨z, hσ⟩, kG, ys, rs, c1, hp1, hc1, hl1, hq1, hy, pm⟩ => ?_
  · subst hσ
    have hlen : ys.length + rs.length = xs.length := by have := pm.length_eq; rw [List.length_append] at this; exact this
    have hr0 : 0 < rs.length := by omega
    refine s_app rfl hq1 ⟨_, rfl, .inl ⟨rfl, _, sq_of hl1⟩, r_cons (r_take (u := rs.length) (ea_cons (ev_var rfl) (ea_cons (ev_len (ev_var rfl) (SqL.of hl1)) ea_nil)) hr0 (by omega) hp1 (by omega) fun r c2 H2 hr2 k2 hp2 hc2 => ?_)⟩
    have hl2 := k2 _ _ hlp hl1
    have hq2 := k2 _ _ hqp hq1
    obtain ⟨y, hyr⟩ : ∃ y, rs[r]? = some y := ⟨rs[r], List.getElem?_eq_getElem hr2⟩
    refine ⟨l, rs, (r : Int), r, y, rfl, rfl, hl2, by omega, by omega, ?_, hyr, ?_⟩
    · show seqIndex? (r : Int) rs.length = some r
      unfold seqIndex?
      simp
      omega
    · refine ⟨ys, (upd_ne (Ne.symm hlq)).trans hq2, by rw [sizeLine_eq]; omega, ?_⟩
      refine ⟨⟨_, rfl⟩, back hqH (back hl (kG.trans k2)), ys ++ [y], rs.eraseIdx r, c2, (hp2.put_ hlp).put_ hqp, by omega, ?_, upd_same, by simp [hy], (perm_pop hyr).trans pm⟩
      rw [upd_ne hlq, upd_same]
  · subst hσ
    exact r_ret ⟨_, rfl, kk q ys rs c1 G kG hp1 (by omega) hq1 hy pm⟩
end
end K5
set_option Elab.async false
set_option linter.all false
set_option maxRecDepth 100000
set_option maxHeartbeats 4000000
namespace K5
open PySem PySem.Spec PyProof.Rows L2 Evl Xl SX Mi
def OPS : List Wd := [[99, 97, 108, 108], [102, 117, 110], [108, 101, 116], [112, 108, 117, 115], [108, 101, 115, 115], [112, 105, 99, 107], [112, 97, 105, 114], [102, 105, 114, 115, 116], [115, 101, 99, 111, 110, 100]]
theorem ops_ari {w : Wd} : decide (w ∈ OPS) = (ari w).isSome := by
  unfold ari
  by_cases h : w ∈ OPS
  · rw [decide_eq_true h]
    simp only [OPS, List.mem_cons, List.not_mem_nil, or_false] at h
    rcases h with rfl | rfl | rfl | rfl | rfl | rfl | rfl | rfl | rfl <;> decide
  · rw [decide_eq_false h]
    simp only [OPS, List.mem_cons, List.not_mem_nil, or_false, not_or] at h
    obtain ⟨h1, h2, h3, h4, h5, h6, h7, h8, h9⟩ := h
    have e : ∀ {x : Wd}, w ≠ x → (w == x) = false := fun h => beq_eq_false_iff_ne.2 h
    simp [ARI, List.lookup, e h1, e h2, e h3, e h4, e h5, e h6, e h7, e h8, e h9]
theorem bind_in {w : Wd} : isBind w = decide (w ∈ ([[102, 117, 110], [108, 101, 116]] : List Wd)) := by
  unfold isBind
  by_cases h : w = [102, 117, 110]
  · subst h; decide
  · by_cases h2 : w = [108, 101, 116]
    · subst h2; decide
    · simp [h, h2]
def lfAt (W : List Wd) (j : Nat) : Bool := (!(ari (W.getD j [])).isSome) && !isBind (W.getD (j - 1) [])
def fstOf (W : List Wd) : Nat := if W.getD 0 [] = PART then 4 else 1
def lvsOf (W : List Wd) : List Nat := (List.range' (fstOf W) (W.length - fstOf W)).filter (lfAt W)
theorem lvs_mem {W : List Wd} {j : Nat} (h : j ∈ lvsOf W) : fstOf W ≤ j ∧ j < W.length ∧ ari (W.getD j []) = none ∧ isBind (W.getD (j - 1) []) = false := by
  obtain ⟨h1, h2⟩ := List.mem_filter.1 h
  unfold lfAt at h2
  rw [Bool.and_eq_true, Bool.not_eq_true', Bool.not_eq_true'] at h2
  rw [List.mem_range'_1] at h1
  exact ⟨h1.1, by omega, by simpa using h2.1, h2.2⟩
theorem mem_lvs {W : List Wd} {j : Nat} (h1 : fstOf W ≤ j) (h2 : j < W.length) (h3 : ari (W.getD j []) = none) (h4 : isBind (W.getD (j - 1) []) = false) : j ∈ lvsOf W :=
  List.mem_filter.2 ⟨List.mem_range'_1.2 ⟨h1, by omega⟩, by unfold lfAt; rw [h3, h4]; rfl⟩
def spLv : Sp := fun vs H Q _ => ∃ (a : Addr) (W : List Wd), vs = [.ref a] ∧ H a = some (.lst (wV W)) ∧ fstOf W ≤ W.length ∧ W.length ≤ 200 ∧ ∀ (q : Addr) (H' : Hp), Ex H H' → H q = none → H' q = some (.lst ((lvsOf W).map fun n => V.int (n : Nat))) → Q (.ref q) H'
abbrev nLv : List Str := ["words", "used", "first", "at"]
theorem scLv : FnScope nLv ["words"] (C8.fnScope (top 54)) := C8.fnScope_by (by decide +kernel)
theorem at_W {W : List Wd} {i : Nat} (h : i < W.length) : atI (wV W) ((i : Nat) : Int) = some (.str (S (W.getD i []))) := atI_nat (by
  rw [List.getElem?_map, List.getElem?_eq_getElem h, List.getD_eq_getElem?_getD, List.getElem?_eq_getElem h]; rfl)
section
variable {P : Program} {w : World} {K : PySem.W.Frag} {mg : Str → Option Value} {base : Heap} {f : Addr} {fd : FuncData}
theorem ok_leaves (F : C8.Def K mg "_law_leaves_of" (top 54) f fd) (b : Binds K fd ["words"] []) (T : Txt5 K w mg) : C8.Cal P w K mg base 1 "_law_leaves_of" spLv [] := by
  refine C8.cal0 F b .nil scLv (fun vs H Q E h => by obtain ⟨a, W, rfl, _⟩ := h; rfl) (fun cdv A outer s H vs Q E hr h => ?_)
  obtain ⟨a, W, rfl, ha, hf, hl, k⟩ := h
  have hW0 : 0 < W.length := by have : 1 ≤ fstOf W := by { unfold fstOf; split <;> omega }; omega
  refine ⟨_, pss_cons (ps_set (i := 1) scLv.nd rfl (Or.inr rfl) (pe_lst (pa_cons pe_str (pa_cons pe_str (pa_cons pe_str (pa_cons pe_str (pa_cons pe_str (pa_cons pe_str (pa_cons pe_str (pa_cons pe_str (pa_cons pe_str pa_nil)))))))))))
    (pss_cons (ps_set (i := 2) scLv.nd rfl (Or.inl rfl) (pe_ifExp (pt_cmpR op_eq (pe_ix ix_list (pv 0) pe_int (fun _ _ => rfl)) pe_str (nomark _)) pe_int pe_int))
    (pss_one (ps_ret (pe_lc (own := [("at", 3)]) (g := gName 3) (tt := tAnd (tTest (tOp (rIn K true) (tOp (rIxL K) (tVar 0) (tVar 3)) (tVar 1))) (tTest (tOp (rIn K true) (tOp (rIxL K) (tVar 0) (tOp (rI0 fun i j => V.int (i - j)) (tVar 3) (tC (.int 1)))) (tTup (tCons (tC (.str "fun")) (tCons (tC (.str "let")) tNil)))))) (te := tVar 3) rfl scLv.nd (pi_range2 (by rfl) T.range_ (pa_cons (pv 2) (pa_cons (pe_callB call_len_seq (by rfl) T.len_ boot_len (pa_cons (pv 0) pa_nil)) pa_nil))) (blkOk_by (N := nLv) (sc := C8.fnScope (top 54)) (by decide +kernel))
      (fun _ _ _ _ _ => pg_name (i := 3) scLv.nd rfl (Or.inl rfl)) (fun _ _ _ _ _ => pts_one (pw_and (pt_cmpR op_notIn_seq (pe_ix ix_list (pv 0) (pv 3) (fun _ _ => rfl)) (pv 1) rfl) (pw_and1 (pt_cmpR op_notIn_seq (pe_ix ix_list (pv 0) (pe_op op_sub (pv 3) pe_int) (fun _ _ => rfl)) (pe_tup (pa_cons pe_str (pa_cons pe_str pa_nil))) rfl))).pt) (fun _ _ _ _ _ => pv 3))))), ?_⟩
  refine q_asgL (xs := wV OPS) (el_lst (ea_cons (ev_lit (x := OPS.getD 0 []) (by decide)) (ea_cons (ev_lit (x := OPS.getD 1 []) (by decide)) (ea_cons (ev_lit (x := OPS.getD 2 []) (by decide)) (ea_cons (ev_lit (x := OPS.getD 3 []) (by decide)) (ea_cons (ev_lit (x := OPS.getD 4 []) (by decide)) (ea_cons (ev_lit (x := OPS.getD 5 []) (by decide)) (ea_cons (ev_lit (x := OPS.getD 6 []) (by decide)) (ea_cons (ev_lit (x := OPS.getD 7 []) (by decide)) (ea_cons (ev_lit (x := OPS.getD 8 []) (by decide)) ea_nil))))))))) (by show 9 ≤ 100000; decide)) fun u H1 hu e1 hu1 => ?_
  have ha1 := e1 _ _ ha
  refine q_asg (v := .int ((fstOf W : Nat) : Int)) ?_ fun H2 e2 => ?_
  · by_cases hp : W.getD 0 [] = PART
    · have h4 : fstOf W = 4 := if_pos hp
      rw [h4]
      exact ev_if (b := true) (et_is (et_test (ev_op (ev_op (ev_var rfl) ev_c (rv_ixL (sq_of ha1) (at_W (i := 0) hW0))) (ev_lit (x := PART) (by decide)) (rv_eq rfl))) (by rw [hp]; simp)) (fun _ => ev_c) fun z => (by cases z)
    · have h4 : fstOf W = 1 := if_neg hp
      rw [h4]
      exact ev_if (b := false) (et_is (et_test (ev_op (ev_op (ev_var rfl) ev_c (rv_ixL (sq_of ha1) (at_W (i := 0) hW0))) (ev_lit (x := PART) (by decide)) (rv_eq rfl))) (decide_eq_false fun z => hp (S_inj (V.str.inj z)))) (fun z => (by cases z)) fun _ => ev_c
  · have ha2 := e2 _ _ ha1
    have hu2 := e2 _ _ hu1
    have e12 := e1.trans e2
    have f1 : 1 ≤ fstOf W := by unfold fstOf; split <;> omega
    have lw : (wV W).length = W.length := by simp
    have AR : EvA (tCons (tVar 2) (tCons (tCB (rLenS K) (tCons (tVar 0) tNil)) tNil)) ([some (.ref a), some (.ref u), some (.int ((fstOf W : Nat) : Int)), none] : L2.St) H2 [.int ((fstOf W : Nat) : Int), .int ((wV W).length : Nat)] := ea_cons (ev_var rfl) (ea_cons (ev_len (ev_var rfl) (SqL.of ha2)) ea_nil)
    refine r_ret ?_
    unfold tLc iRng2
    refine AR H2 (Ex.refl H2) _ fun H3 e3 => ⟨_, _, rfl, ⟨by omega, by omega, by omega, by omega⟩, fun D hD => ?_⟩
    have ha3 := e3 _ _ ha2
    have hu3 := e3 _ _ hu2
    have hn : (((wV W).length : Nat) - ((fstOf W : Nat) : Int)).toNat = W.length - fstOf W := by omega
    rw [hn]
    refine comp_walk (body := fun x H' Nx => gName 3 x (wipe ([some (.ref a), some (.ref u), some (.int ((fstOf W : Nat) : Int)), none] : L2.St) [3]) H' fun σ2 H2 => wipe σ2 [3] = wipe ([some (.ref a), some (.ref u), some (.int ((fstOf W : Nat) : Int)), none] : L2.St) [3] ∧ (tAnd (tTest (tOp (rIn K true) (tOp (rIxL K) (tVar 0) (tVar 3)) (tVar 1))) (tTest (tOp (rIn K true) (tOp (rIxL K) (tVar 0) (tOp (rI0 fun i j => V.int (i - j)) (tVar 3) (tC (.int 1)))) (tTup (tCons (tC (.str "fun")) (tCons (tC (.str "let")) tNil)))))) σ2 H2 fun b H3 => if b = true then tVar 3 σ2 H3 (fun y H4 => ∃ acc, H4 D = some (.lst acc) ∧ acc.length < sizeLine ∧ Nx (upd H4 D (.lst (acc ++ [y])))) else Nx H3)
      (walk_range (lo := ((fstOf W : Nat) : Int)) (n := W.length - fstOf W)) (fun i G => Ex H3 G ∧ G D = some (.lst (((List.range' (fstOf W) i).filter (lfAt W)).map fun n => V.int (n : Nat)))) ⟨ex_put hD (Ex.refl H3), upd_same⟩ (fun i G _ _ => trivial) (fun i G x G' hi hpv hy => ?_) (fun G hpv => ?_)
    · obtain ⟨rfl, rfl⟩ := hy
      obtain ⟨eG, hGD⟩ := hpv
      have hj : fstOf W + i < W.length := by omega
      have hcast : ((fstOf W : Nat) : Int) + (i : Nat) = ((fstOf W + i : Nat) : Int) := by omega
      dsimp only
      rw [hcast]
      have haG := eG _ _ ha3
      have huG := eG _ _ hu3
      have hr : List.range' (fstOf W) (i + 1) = List.range' (fstOf W) i ++ [fstOf W + i] := by rw [List.range'_1_concat]
      have test : EvT (tAnd (tTest (tOp (rIn K true) (tOp (rIxL K) (tVar 0) (tVar 3)) (tVar 1))) (tTest (tOp (rIn K true) (tOp (rIxL K) (tVar 0) (tOp (rI0 fun i j => V.int (i - j)) (tVar 3) (tC (.int 1)))) (tTup (tCons (tC (.str "fun")) (tCons (tC (.str "let")) tNil)))))) ([some (.ref a), some (.ref u), some (.int ((fstOf W : Nat) : Int)), some (.int ((fstOf W + i : Nat) : Int))] : L2.St) G' (lfAt W (fstOf W + i)) := by
        refine et_is (et_and (a := !decide (W.getD (fstOf W + i) [] ∈ OPS)) (b := !isBind (W.getD (fstOf W + i - 1) [])) ?_ fun _ => ?_) (by unfold lfAt; rw [ops_ari])
        · exact et_test (ev_is (ev_op (ev_op (ev_var rfl) (ev_var rfl) (rv_ixL (sq_of haG) (at_W hj))) (ev_var rfl) (rv_niL (sq_of huG) rfl flat_map)) (by rw [inV_map]))
        · refine et_test (ev_is (ev_opU (xs := [[102, 117, 110], [108, 101, 116]].map fun x => V.str (S x)) (ev_op (ev_var rfl) (ev_op (ev_var rfl) ev_c rv_I0) (rv_ixL (sq_of haG) ?_)) (eu_tup (ea_cons (ev_lit (x := [102, 117, 110]) (by decide)) (ea_cons (ev_lit (x := [108, 101, 116]) (by decide)) ea_nil)) (by show 2 ≤ 100000; decide)) fun _ _ h _ => rv_niT (st_of h) rfl flat_map) (by rw [inV_map, bind_in]))
          have : ((fstOf W + i : Nat) : Int) - 1 = ((fstOf W + i - 1 : Nat) : Int) := by omega
          rw [this]
          exact at_W (by omega)
      refine ⟨rfl, test G' (Ex.refl G') _ fun G4 e4 => ?_⟩
      cases hlf : lfAt W (fstOf W + i) with
      | true =>
        rw [if_pos rfl]
        refine ⟨_, rfl, _, e4 _ _ hGD, ?_, ex_put hD (eG.trans e4), ?_⟩
        · rw [List.length_map, sizeLine_eq]
          have := List.length_filter_le (lfAt W) (List.range' (fstOf W) i)
          rw [List.length_range'] at this
          omega
        · rw [upd_same, hr, List.filter_append, List.map_append]
          simp [hlf]
      | false =>
        rw [if_neg (by decide)]
        refine ⟨eG.trans e4, ?_⟩
        rw [e4 _ _ hGD, hr, List.filter_append]
        simp [hlf]
    · obtain ⟨eG, hGD⟩ := hpv
      exact k D G (((e12.trans e3)).trans eG) (fresh_back (e12.trans e3) hD) hGD
end
end K5
set_option Elab.async false
set_option linter.all false
set_option maxRecDepth 100000
set_option maxHeartbeats 4000000
namespace K5
open PySem PySem.Spec PyProof.Rows L2 Evl Xl SX Mi
theorem r_tup {ta : TA} {σ : L2.St} {H : Hp} {Q : VK} (h : ta σ H fun xs H1 => xs.length ≤ sizeLine ∧ ∀ p, H1 p = none → Q (.ref p) (upd H1 p (.tup xs))) : tTup ta σ H Q := h
theorem cut_take {xs : List V} {m : Nat} : cutV xs none (some (m : Int)) = xs.take m := by
  unfold cutV
  simp only [HT.sIx]
  rw [if_neg (by omega)]
  simp only [List.drop_zero, Nat.sub_zero, Int.toNat_natCast]
  by_cases z : m ≤ xs.length
  · rw [Nat.min_eq_left z]
  · rw [Nat.min_eq_right (by omega), List.take_length, List.take_of_length_le (by omega)]
theorem cut_drop {xs : List V} {m : Nat} : cutV xs (some (m : Int)) none = xs.drop m := by
  unfold cutV
  simp only [HT.sIx]
  rw [if_neg (by omega)]
  simp only [Int.toNat_natCast]
  by_cases z : m ≤ xs.length
  · rw [Nat.min_eq_left z, List.take_of_length_le (by rw [List.length_drop]; omega)]
  · rw [Nat.min_eq_right (by omega), List.drop_length, List.drop_eq_nil_of_le (by omega)]; simp
section
variable {K : PySem.W.Frag} {te tl th : TE} {σ : L2.St} {H : Hp} {W : List Wd} {a : Addr} {m : Nat}
theorem ew_take (h : Ev te σ H (.ref a)) (ha : H a = some (.lst (wV W))) (hm : Ev th σ H (.int m)) : EvW (tSl (rSlL K) te tNoPart (tPart th)) σ H (W.take m) := .lst (by
  have := el_sl (K := K) h eo_none (eo_some hm) (sq_of ha)
  rw [cut_take, ← List.map_take] at this
  exact this)
theorem ew_drop (h : Ev te σ H (.ref a)) (ha : H a = some (.lst (wV W))) (hm : Ev tl σ H (.int m)) : EvW (tSl (rSlL K) te (tPart tl) tNoPart) σ H (W.drop m) := .lst (by
  have := el_sl (K := K) h (eo_some hm) eo_none (sq_of ha)
  rw [cut_drop, ← List.map_drop] at this
  exact this)
theorem ew_last (hne : W ≠ []) (h : Ev te σ H (.ref a)) (ha : H a = some (.lst (wV W))) (hm : Ev th σ H (.int (-1))) : EvW (tSl (rSlL K) te tNoPart (tPart th)) σ H (W.take (W.length - 1)) := .lst (by
  have := el_sl (K := K) h eo_none (eo_some hm) (sq_of ha)
  rw [cut_last (by simpa using hne)] at this
  have e : (wV W).dropLast = wV (W.take (W.length - 1)) := by rw [List.dropLast_eq_take, List.length_map, ← List.map_take]
  rw [e] at this
  exact this)
end
theorem fst_hd {hd : List Wd} {e : Tr} (H : HdOk hd e) : fstOf (hd ++ e.words) = if hd.length = 2 then 4 else 1 := by
  rcases H with rfl | ⟨nm, rfl, _, _⟩
  · show (if RUN = PART then 4 else 1) = _
    rw [if_neg (by decide)]
    rfl
  · show (if PART = PART then 4 else 1) = _
    rw [if_pos rfl]; rfl
theorem hd_len {hd : List Wd} {e : Tr} (H : HdOk hd e) : hd.length = 1 ∨ hd.length = 2 := by
  rcases H with rfl | ⟨nm, rfl, _, _⟩
  · exact .inl rfl
  · exact .inr rfl
theorem fun_len {e : Tr} (ok : e.Ok) (h : e.rs = FUN) : 3 ≤ e.words.length := by
  cases e with
  | leaf w => exact absurd ok.1 (by rw [show w = FUN from h]; decide)
  | un s n a =>
    have hs : s = FUN := h
    have hn : n ≠ [] := (ok.2.1.1 (by rw [hs]; decide)).1
    have ha : 0 < a.words.length := by obtain ⟨r, hr⟩ := a.words_eq; rw [hr]; simp
    show 3 ≤ (s :: (nmW n ++ a.words)).length
    unfold nmW
    rw [if_neg hn]
    simp; omega
  | bi s n a b =>
    have hs : s = FUN := h
    have := ok.1
    rw [hs] at this
    exact absurd this (by decide)
  | tri s a b c =>
    have hs : s = FUN := h
    have := ok.1
    rw [hs] at this
    exact absurd this (by decide)
/-- a line has a leaf -/
theorem lvs_ne {hd : List Wd} {e : Tr} (H : HdOk hd e) (ok : e.Ok) : 0 < (lvsOf (hd ++ e.words)).length := by
  obtain ⟨pre, x, h1, h2, h3⟩ := Tr.last ok
  have hl : (hd ++ e.words).length = hd.length + pre.length + 1 := by rw [h1]; simp; omega
  have hx : (hd ++ e.words).getD (hd.length + pre.length) [] = x := by
    rw [h1, List.getD_eq_getElem?_getD, List.getElem?_append_right (by omega), Nat.add_sub_cancel_left, List.getElem?_append_right (by omega), Nat.sub_self]; rfl
  have hpos : hd.length = 2 → 2 ≤ pre.length := fun z => by
    rcases H with rfl | ⟨nm, rfl, _, hf⟩
    · cases z
    · have := fun_len ok hf
      rw [h1] at this
      simp at this; omega
  have hb : isBind ((hd ++ e.words).getD (hd.length + pre.length - 1) []) = false := by
    rcases List.eq_nil_or_concat pre with rfl | ⟨l, i, rfl⟩
    · rcases H with rfl | ⟨nm, rfl, _, hf⟩
      · show isBind RUN = false; decide
      · have := hpos rfl; simp at this
    · rw [List.concat_eq_append] at h1 h3 ⊢
      have : (hd ++ e.words).getD (hd.length + (l ++ [i]).length - 1) [] = i := by
        rw [h1, List.getD_eq_getElem?_getD, List.getElem?_append_right (by rw [List.length_append]; show _ ≤ hd.length + (l.length + 1) - 1; omega)]
        have e1 : hd.length + (l ++ [i]).length - 1 - hd.length = l.length := by rw [List.length_append]; show hd.length + (l.length + 1) - 1 - hd.length = l.length; omega
        rw [e1, List.append_assoc, List.getElem?_append_right (Nat.le_refl _), Nat.sub_self]; rfl
      rw [this]
      exact h3 i List.getLast?_concat
  refine List.length_pos_iff.2 (List.ne_nil_of_mem (mem_lvs (j := hd.length + pre.length) ?_ (by omega) (by rw [hx]; exact h2) hb))
  rw [fst_hd H]
  split
  · have := hpos (by assumption); omega
  · rcases hd_len H with z | z <;> omega
theorem r_callA {sp : Sp} {dvs : List V} {E : XK} {ta : TA} {σ : L2.St} {H : Hp} {Q : VK} (h : ta σ H fun vs H1 => sp (vs ++ dvs) H1 Q E) : tCall sp dvs E ta σ H Q := h
def spSpl : Sp := fun vs H Q _ => ∃ (p a : Addr) (c : Nat) (hd : List Wd) (e : Tr), vs = [.ref p, .ref a] ∧ PotAt p c H ∧ c + 3 ≤ 2000000 ∧ H a = some (.lst (wV (hd ++ e.words))) ∧ HdOk hd e ∧ e.Ok ∧ (hd ++ e.words).length ≤ 110 ∧
  ∀ (t q : Addr) (late : Bool) (c' : Nat) (H' : Hp) (W' : List Wd), Kp p H H' → PotAt p c' H' → c' ≤ c + 3 → H' t = some (.tup [.ref q, .bl late]) → H' q = some (.lst (wV W')) → SpW hd e (if late then 1 else 2) W' → (W' ≠ [] ∧ W'.length ≤ 120) → (∀ w ∈ W', w.length ≤ 9) → Q (.ref t) H'
abbrev nSl : List Str := ["pot", "words", "at", "way", "bad"]
theorem scSl : FnScope nSl ["pot", "words"] (C8.fnScope (top 55)) := C8.fnScope_by (by decide +kernel)
section
variable {P : Program} {w : World} {K : PySem.W.Frag} {mg : Str → Option Value} {base : Heap} {f : Addr} {fd : FuncData}
theorem ok_spoilt (F : C8.Def K mg "_law_spoilt_line" (top 55) f fd) (b : Binds K fd ["pot", "words"] []) (T : Txt5 K w mg) (cT : C8.Cal P w K mg base 1 "_law_take" spTk []) (cO : C8.Cal P w K mg base 2 "_law_of" (spOfG K) []) (cL : C8.Cal P w K mg base 1 "_law_leaves_of" spLv []) : C8.Cal P w K mg base 3 "_law_spoilt_line" spSpl [] := by
  refine C8.cal0 F b .nil scSl (fun vs H Q E h => by obtain ⟨p, a, c, hd, e, rfl, _⟩ := h; rfl) (fun cdv A outer s H vs Q E hr h => ?_)
  obtain ⟨p, a, c, hd, e, rfl, hp, hc, ha, HH, ok, hlen, kk⟩ := h
  refine ⟨_, pss_cons (ps_par (i := 2) (j := 3) (by rfl) scSl.nd rfl rfl (by decide) rfl rfl (pa_cons (C8.pe_c cO hr (by decide) (by rfl) (pa_cons (pv 0) (pa_cons (C8.pe_c cL hr (by decide) (by rfl) (pa_cons (pv 1) pa_nil)) pa_nil))) (pa_cons (C8.pe_c cT hr (by decide) (by rfl) (pa_cons (pv 0) (pa_cons pe_int pa_nil))) pa_nil)) (by rfl))
    (pss_cons (ps_set (i := 4) scSl.nd rfl (Or.inl rfl) (pe_lst (pa_cons pe_str (pa_cons pe_str (pa_cons pe_str (pa_cons pe_str (pa_cons pe_str (pa_cons pe_str (pa_cons pe_str (pa_cons pe_str (pa_cons pe_str (pa_cons pe_str (pa_cons pe_str (pa_cons pe_str (pa_cons pe_str (pa_cons pe_str pa_nil))))))))))))))))
    (pss_cons (ps_if (pt_cmpR op_eq (pv 3) pe_int (nomark _)) (pss_one (ps_ret (pe_tup (pa_cons (pe_op op_cat (pv 1) (pe_lst (pa_cons (C8.pe_c cO hr (by decide) (by rfl) (pa_cons (pv 0) (pa_cons (pe_lst (pa_cons pe_str (pa_cons pe_str (pa_cons pe_str (pa_cons pe_str pa_nil))))) pa_nil))) pa_nil))) (pa_cons pe_bl pa_nil))))) pss_nil)
    (pss_cons (ps_if (pt_cmpR op_eq (pv 3) pe_int (nomark _)) (pss_one (ps_ret (pe_tup (pa_cons (pe_slice sl_list (pv 1) po_none (po_some (pe_un un_neg pe_int))) (pa_cons pe_bl pa_nil))))) pss_nil)
    (pss_cons (ps_if (pt_cmpR op_eq (pv 3) pe_int (nomark _)) (pss_one (ps_ret (pe_tup (pa_cons (pe_op op_cat (pe_op op_cat (pe_slice sl_list (pv 1) po_none (po_some pe_int)) (pe_lst (pa_cons pe_str pa_nil))) (pe_slice sl_list (pv 1) (po_some pe_int) po_none)) (pa_cons pe_bl pa_nil))))) pss_nil)
    (pss_cons (ps_if (pt_cmpR op_eq (pv 3) pe_int (nomark _)) (pss_one (ps_ret (pe_tup (pa_cons (pe_op op_cat (pe_lst (pa_cons pe_str pa_nil)) (pv 1)) (pa_cons pe_bl pa_nil))))) pss_nil)
    (pss_cons (ps_if (pt_cmpR op_eq (pv 3) pe_int (nomark _)) (pss_one (ps_ret (pe_tup (pa_cons (pe_op op_cat (pv 1) (pe_lst (pa_cons pe_str pa_nil))) (pa_cons pe_bl pa_nil))))) pss_nil)
    (pss_cons (ps_if (pt_cmpR op_eq (pv 3) pe_int (nomark _)) (pss_one (ps_ret (pe_tup (pa_cons (pe_op op_cat (pe_op op_cat (pe_slice sl_list (pv 1) po_none (po_some (pv 2))) (pe_lst (pa_cons pe_str pa_nil))) (pe_slice sl_list (pv 1) (po_some (pe_op op_add (pv 2) pe_int)) po_none)) (pa_cons pe_bl pa_nil))))) pss_nil)
    (pss_one (ps_ret (pe_tup (pa_cons (pe_op op_cat (pe_op op_cat (pe_slice sl_list (pv 1) po_none (po_some (pv 2))) (pe_lst (pa_cons (C8.pe_c cO hr (by decide) (by rfl) (pa_cons (pv 0) (pa_cons (pv 4) pa_nil))) pa_nil))) (pe_slice sl_list (pv 1) (po_some (pe_op op_add (pv 2) pe_int)) po_none)) (pa_cons pe_bl pa_nil)))))))))))), ?_⟩
  have hne : e.words ≠ [] := by obtain ⟨r, hr⟩ := e.words_eq; rw [hr]; simp
  have fl : fstOf (hd ++ e.words) ≤ (hd ++ e.words).length := by
    have h1 := lvs_ne HH ok
    obtain ⟨j, hj⟩ := List.exists_mem_of_length_pos h1
    have := lvs_mem hj; omega
  -- at, way
  refine q_par (r_cons (r_callA (r_cons ⟨_, rfl, r_cons (r_call (vs := [.ref a]) (ea_cons (ev_var rfl) ea_nil) fun H1 e1 => ⟨a, _, rfl, e1 _ _ ha, fl, by omega, fun l H2 e2 hl hlx => ?_⟩)⟩)))
  have e12 := e1.trans e2
  have hl0 : H l = none := fresh_back e1 hl
  refine ⟨p, l, c, _, rfl, hp.ex e12, by omega, hlx, by rw [List.length_map]; exact lvs_ne HH ok, ?_, pot_ne hp hl0, fun v c1 G1 hv k1 hp1 hc1 => ?_⟩
  · rw [List.length_map]
    have : (lvsOf (hd ++ e.words)).length ≤ (hd ++ e.words).length - fstOf (hd ++ e.words) := by
      have := List.length_filter_le (lfAt (hd ++ e.words)) (List.range' (fstOf (hd ++ e.words)) ((hd ++ e.words).length - fstOf (hd ++ e.words)))
      rw [List.length_range'] at this
      exact this
    omega
  obtain ⟨j, hj, rfl⟩ := List.mem_map.1 hv
  obtain ⟨j1, j2, j3, j4⟩ := lvs_mem hj
  refine r_cons (r_take (u := 8) (ea_cons (ev_var rfl) (ea_cons ev_c ea_nil)) (by decide) (by decide) hp1 (by omega) fun r c2 G2 hr8 k2 hp2 hc2 => ⟨_, _, rfl, ?_⟩)
  have kG2 : Kp p H G2 := (Kp.pre e12 k1).trans k2
  have hap : a ≠ p := words_ne hp ha
  have ha2 : G2 a = some (.lst (wV (hd ++ e.words))) := kG2 _ _ hap ha
  have fin : ∀ {G : Hp} {q : Addr} {late : Bool} {c' : Nat} {W' : List Wd}, Kp p H G → PotAt p c' G → c' ≤ c + 3 → G q = some (.lst (wV W')) → SpW hd e (if late then 1 else 2) W' → (W' ≠ [] ∧ W'.length ≤ 120) → (∀ w ∈ W', w.length ≤ 9) → ∀ t, G t = none → Q (.ref t) (upd G t (.tup [.ref q, .bl late])) :=
    fun kG hpG hcG hq sp l1 l2 t ht => kk t _ _ _ _ _ (kG.ex (ex_put ht (Ex.refl _))) (hpG.ex (ex_put ht (Ex.refl _))) hcG upd_same (ex_put ht (Ex.refl _) _ _ hq) sp l1 l2
  have ws9 : ∀ w ∈ hd ++ e.words, w.length ≤ 9 := fun w hw => by
    rcases List.mem_append.1 hw with hw | hw
    · rcases HH with rfl | ⟨nm, rfl, hn, _⟩
      · rw [List.mem_singleton.1 hw]; decide
      · rcases List.mem_cons.1 hw with rfl | hw
        · decide
        · rw [List.mem_singleton.1 hw]; have := free_len hn; omega
    · have := tr_short ok w hw; omega
  have eqT : ∀ {σ : L2.St} {G : Hp} {n : Nat} {k : Int}, σ[3]? = some (some (.int (n : Nat))) → EvT (tTest (tOp rEq (tVar 3) (tC (.int k)))) σ G (decide ((n : Int) = k)) := fun h => et_is (et_test (ev_op (ev_var h) ev_c (rv_eq rfl))) (decide_eq_decide.2 ⟨fun z => V.int.inj z, fun z => by rw [z]⟩)
  refine q_asgL (xs := wV BAD) (el_lst (ea_cons (ev_lit (x := BAD.getD 0 []) (by decide)) (ea_cons (ev_lit (x := BAD.getD 1 []) (by decide)) (ea_cons (ev_lit (x := BAD.getD 2 []) (by decide)) (ea_cons (ev_lit (x := BAD.getD 3 []) (by decide)) (ea_cons (ev_lit (x := BAD.getD 4 []) (by decide)) (ea_cons (ev_lit (x := BAD.getD 5 []) (by decide)) (ea_cons (ev_lit (x := BAD.getD 6 []) (by decide)) (ea_cons (ev_lit (x := BAD.getD 7 []) (by decide)) (ea_cons (ev_lit (x := BAD.getD 8 []) (by decide)) (ea_cons (ev_lit (x := BAD.getD 9 []) (by decide)) (ea_cons (ev_lit (x := BAD.getD 10 []) (by decide)) (ea_cons (ev_lit (x := BAD.getD 11 []) (by decide)) (ea_cons (ev_lit (x := BAD.getD 12 []) (by decide)) (ea_cons (ev_lit (x := BAD.getD 13 []) (by decide)) ea_nil)))))))))))))) (by show 14 ≤ 100000; decide)) fun u H3 hu e3 hu3 => ?_
  have kG3 : Kp p H H3 := kG2.ex e3
  have hp3 := hp2.ex e3
  have ha3 := e3 _ _ ha2
  clear hu
  dsimp only [List.set]
  -- a word more
  refine q_when (b := decide ((r : Int) = 0)) (eqT rfl) (fun hb H4 e4 => ?_) fun hb H4 e4 => ?_
  · refine r_ret (r_tup (r_cons (r_op ⟨_, rfl, r_lst1 (r_callVL (xs := wV [[49], [120], [99, 97, 108, 108], []]) (ev_var rfl) (el_lst (ea_cons (ev_lit (x := [49]) (by decide)) (ea_cons (ev_lit (x := [120]) (by decide)) (ea_cons (ev_lit (x := [99, 97, 108, 108]) (by decide)) (ea_cons (ev_lit (x := []) (by decide)) ea_nil)))) (by show 4 ≤ 100000; decide)) fun t H5 ht e5 hx5 => ?_)⟩)))
    have e45 := e4.trans e5
    refine ⟨p, t, c2, _, rfl, hp3.ex e45, by omega, hx5, by show 0 < 4; decide, by show 4 ≤ 1000; decide, pot_ne (hp3.ex e4) ht, fun v c3 G6 hv k6 hp6 hc6 q1 hq1 => ?_⟩
    obtain ⟨z, hz, rfl⟩ := List.mem_map.1 hv
    have k36 : Kp p H3 G6 := Kp.pre e45 k6
    refine r_catW (w1 := hd ++ e.words) (w2 := [z]) (ex_put hq1 (Ex.refl G6) _ _ (k36 _ _ hap ha3)) upd_same (by rw [List.length_singleton]; omega) fun q2 H7 e7 _ h7 => r_cons (r_c ⟨two_le, ?_⟩)
    have ex1 : Ex G6 H7 := (ex_put hq1 (Ex.refl G6)).trans e7
    have hzz : Plain z ∧ z.length ≤ 9 := by
      have : ∀ y ∈ ([[49], [120], [99, 97, 108, 108], []] : List Wd), Plain y ∧ y.length ≤ 9 := by unfold Plain; decide
      exact this z hz
    exact fin ((kG3.trans k36).ex ex1) (hp6.ex ex1) (by omega) h7 (sp_more HH ok hzz.1) ⟨by simp, by rw [List.length_append, List.length_singleton]; omega⟩ (fun w hw => by
      rcases List.mem_append.1 hw with hw | hw
      · exact ws9 w hw
      · rw [List.mem_singleton.1 hw]; exact hzz.2)
  -- a word less
  have kG4 := kG3.ex e4
  have hp4 := hp3.ex e4
  have ha4 := e4 _ _ ha3
  have hu4 := e4 _ _ hu3
  refine q_when (b := decide ((r : Int) = 1)) (eqT rfl) (fun hb H5 e5 => ?_) fun hb H5 e5 => ?_
  · refine r_ret (r_tup (r_cons ((ew_last (K := K) (by simp [hne]) (ev_var rfl) (e5 _ _ ha4) (ev_un ev_c ru_neg) : EvW _ _ H5 _) H5 (Ex.refl H5) _ fun q H6 e6 hq => r_cons (r_c ⟨two_le, ?_⟩))))
    have ex1 := e5.trans e6
    have ne_less : (hd ++ e.words).take ((hd ++ e.words).length - 1) ≠ [] := fun z => by
      have h1 := congrArg List.length z
      have h2 := hd_len HH
      have h3 : 0 < e.words.length := List.length_pos_iff.2 hne
      rw [List.length_take, List.length_append] at h1
      simp only [List.length_nil] at h1
      omega
    exact fin (kG4.ex ex1) (hp4.ex ex1) (by omega) hq (sp_less HH ok) ⟨ne_less, by rw [List.length_take]; omega⟩ (fun w hw => ws9 w (List.mem_of_mem_take hw))
  have kG5 := kG4.ex e5
  have hp5 := hp4.ex e5
  have ha5 := e5 _ _ ha4
  have hu5 := e5 _ _ hu4
  -- a blank more
  refine q_when (b := decide ((r : Int) = 2)) (eqT rfl) (fun hb H6 e6 => ?_) fun hb H6 e6 => ?_
  · refine r_ret (r_tup (r_cons ((EvW.cat (w1 := (hd ++ e.words).take 1 ++ [[]]) (w2 := (hd ++ e.words).drop 1) (.cat (w1 := (hd ++ e.words).take 1) (w2 := [[]]) (ew_take (K := K) (m := 1) (ev_var rfl) (e6 _ _ ha5) ev_c) (.lst (ew1 (x := []) (by decide))) (by rw [List.length_take, List.length_singleton]; omega)) (ew_drop (K := K) (m := 1) (ev_var rfl) (e6 _ _ ha5) ev_c) (by rw [List.length_append, List.length_take, List.length_drop, List.length_singleton]; omega) : EvW _ _ H6 _) H6 (Ex.refl H6) _ fun q H7 e7 hq => r_cons (r_c ⟨two_le, ?_⟩))))
    have ex1 := e6.trans e7
    exact fin (kG5.ex ex1) (hp5.ex ex1) (by omega) hq (sp_blank HH ok) ⟨by simp, by rw [List.length_append, List.length_append, List.length_take, List.length_drop, List.length_singleton]; omega⟩ (fun w hw => by
      rcases List.mem_append.1 hw with hw | hw
      · rcases List.mem_append.1 hw with hw | hw
        · exact ws9 w (List.mem_of_mem_take hw)
        · rw [List.mem_singleton.1 hw]; decide
      · exact ws9 w (List.mem_of_mem_drop hw))
  have kG6 := kG5.ex e6
  have hp6 := hp5.ex e6
  have ha6 := e6 _ _ ha5
  have hu6 := e6 _ _ hu5
  -- a blank ahead
  refine q_when (b := decide ((r : Int) = 3)) (eqT rfl) (fun hb H7 e7 => ?_) fun hb H7 e7 => ?_
  · refine r_ret (r_tup (r_cons ((EvW.cat (w1 := [[]]) (w2 := hd ++ e.words) (.lst (ew1 (x := []) (by decide))) (.var rfl (e7 _ _ ha6)) (by rw [List.length_singleton]; omega) : EvW _ _ H7 _) H7 (Ex.refl H7) _ fun q H8 e8 hq => r_cons (r_c ⟨two_le, ?_⟩))))
    have ex1 := e7.trans e8
    exact fin (kG6.ex ex1) (hp6.ex ex1) (by omega) hq (sp_ahead HH ok) ⟨by simp, by rw [List.length_append, List.length_singleton]; omega⟩ (fun w hw => by
      rcases List.mem_append.1 hw with hw | hw
      · rw [List.mem_singleton.1 hw]; decide
      · exact ws9 w hw)
  have kG7 := kG6.ex e7
  have hp7 := hp6.ex e7
  have ha7 := e7 _ _ ha6
  have hu7 := e7 _ _ hu6
  -- a name more
  refine q_when (b := decide ((r : Int) = 4)) (eqT rfl) (fun hb H8 e8 => ?_) fun hb H8 e8 => ?_
  · refine r_ret (r_tup (r_cons ((EvW.cat (w1 := hd ++ e.words) (w2 := [NOB]) (.var rfl (e8 _ _ ha7)) (.lst (ew1 (x := NOB) (by decide))) (by rw [List.length_singleton]; omega) : EvW _ _ H8 _) H8 (Ex.refl H8) _ fun q H9 e9 hq => r_cons (r_c ⟨two_le, ?_⟩))))
    have ex1 := e8.trans e9
    exact fin (kG7.ex ex1) (hp7.ex ex1) (by omega) hq (sp_more HH ok ⟨by decide, by decide⟩) ⟨by simp, by rw [List.length_append, List.length_singleton]; omega⟩ (fun w hw => by
      rcases List.mem_append.1 hw with hw | hw
      · exact ws9 w hw
      · rw [List.mem_singleton.1 hw]; decide)
  have kG8 := kG7.ex e8
  have hp8 := hp7.ex e8
  have ha8 := e8 _ _ ha7
  have hu8 := e8 _ _ hu7
  have hdl := hd_len HH
  have hf := fst_hd HH
  have jx : (hd ++ e.words)[j]? = some ((hd ++ e.words).getD j []) := by rw [List.getD_eq_getElem?_getD, List.getElem?_eq_getElem j2]; rfl
  have jb : ∀ y, (hd ++ e.words)[j - 1]? = some y → isBind y = false := fun y hy => by rw [List.getD_eq_getElem?_getD, hy] at j4; exact j4
  have j0 : hd.length ≤ j := by rcases hdl with z | z <;> (rw [hf, z] at j1; simp at j1; omega)
  have j5 : hd.length = 2 → hd.length < j := fun z => by rw [hf, if_pos z] at j1; omega
  have cut : ∀ {x : Wd} {σ : L2.St} {G : Hp} {tm : TE}, σ[1]? = some (some (.ref a)) → σ[2]? = some (some (.int (j : Nat))) → G a = some (.lst (wV (hd ++ e.words))) → EvW tm σ G [x] →
      EvW (tOp rCat (tOp rCat (tSl (rSlL K) (tVar 1) tNoPart (tPart (tVar 2))) tm) (tSl (rSlL K) (tVar 1) (tPart (tOp (rI0 fun i j => V.int (i + j)) (tVar 2) (tC (.int 1)))) tNoPart)) σ G (((hd ++ e.words).take j ++ [x]) ++ (hd ++ e.words).drop (j + 1)) := fun h1 h2 hG hx =>
    EvW.cat (.cat (ew_take (K := K) (ev_var h1) hG (ev_var h2)) hx (by rw [List.length_take, List.length_singleton]; omega)) (ew_drop (K := K) (m := j + 1) (ev_var h1) hG (ev_op (ev_var h2) ev_c rv_I0)) (by rw [List.length_append, List.length_take, List.length_drop, List.length_singleton]; omega)
  have lcut : ∀ {x : Wd}, (((hd ++ e.words).take j ++ [x]) ++ (hd ++ e.words).drop (j + 1)).length ≤ 120 := by
    intro x
    rw [List.length_append, List.length_append, List.length_take, List.length_drop, List.length_singleton]; omega
  have wcut : ∀ {x : Wd}, x.length ≤ 9 → ∀ w ∈ (((hd ++ e.words).take j ++ [x]) ++ (hd ++ e.words).drop (j + 1)), w.length ≤ 9 := fun hx w hw => by
    rcases List.mem_append.1 hw with hw | hw
    · rcases List.mem_append.1 hw with hw | hw
      · exact ws9 w (List.mem_of_mem_take hw)
      · rw [List.mem_singleton.1 hw]; exact hx
    · exact ws9 w (List.mem_of_mem_drop hw)
  -- nobody's name
  refine q_when (b := decide ((r : Int) = 5)) (eqT rfl) (fun hb H9 e9 => ?_) fun hb H9 e9 => ?_
  · refine r_ret (r_tup (r_cons (cut (x := NOB) rfl rfl (e9 _ _ ha8) (.lst (ew1 (x := NOB) (by decide))) H9 (Ex.refl H9) _ fun q H10 e10 hq => r_cons (r_c ⟨two_le, ?_⟩))))
    have ex1 := e9.trans e10
    exact fin (kG8.ex ex1) (hp8.ex ex1) (by omega) hq (sp_nob ok j0 j5 jx j3 jb) ⟨by simp, lcut⟩ (wcut (by decide))
  -- another word
  have ha9 := e9 _ _ ha8
  have hu9 := e9 _ _ hu8
  have kG9 := kG8.ex e9
  have hp9 := hp8.ex e9
  refine r_ret (r_tup (r_cons (r_op (r_op ?_))))
  refine (ew_take (K := K) (m := j) (ev_var rfl) ha9 (ev_var rfl) : EvW _ _ H9 _) H9 (Ex.refl H9) _ fun q1 H10 e10 hq1 => ?_
  refine r_lst1 (r_call (vs := [.ref p, .ref u]) (ea_cons (ev_var rfl) (ea_cons (ev_var rfl) ea_nil)) fun H11 e11 => ?_)
  have ex1 := e10.trans e11
  refine ⟨p, u, c2, _, rfl, hp9.ex ex1, by omega, ex1 _ _ hu9, by show 0 < 14; decide, by show 14 ≤ 1000; decide, words_ne hp9 hu9, fun v c3 G12 hv k12 hp12 hc12 q2 hq2 => ?_⟩
  obtain ⟨z, hz, rfl⟩ := List.mem_map.1 hv
  have k9 : Kp p H9 G12 := Kp.pre ex1 k12
  have hq1b : G12 q1 = some (.lst (wV ((hd ++ e.words).take j))) := (Kp.pre e11 k12) _ _ (words_ne (hp9.ex e10) hq1) hq1
  have ha12 := k9 _ _ hap ha9
  have ex2 : Ex G12 (upd G12 q2 (.lst [.str (S z)])) := ex_put hq2 (Ex.refl G12)
  refine r_catW (w1 := (hd ++ e.words).take j) (w2 := [z]) (ex2 _ _ hq1b) upd_same (by rw [List.length_take, List.length_singleton]; omega) fun q3 H13 e13 _ h13 => ?_
  refine (ew_drop (K := K) (m := j + 1) (ev_var rfl) (e13 _ _ (ex2 _ _ ha12)) (ev_op (ev_var rfl) ev_c rv_I0) : EvW _ _ H13 _) H13 (Ex.refl H13) _ fun q4 H14 e14 h14 => ?_
  refine r_catW (e14 _ _ h13) h14 (by rw [List.length_append, List.length_take, List.length_drop, List.length_singleton]; omega) fun q5 H15 e15 _ h15 => r_cons (r_c ⟨two_le, ?_⟩)
  have ex3 := ((ex2.trans e13).trans e14).trans e15
  have hz9 : z.length ≤ 9 := by
    have : ∀ y ∈ BAD, y.length ≤ 9 := by decide
    exact this z hz
  exact fin ((kG9.trans k9).ex ex3) (hp12.ex ex3) (by omega) h15 (sp_word HH ok j0 jx j3 jb hz) ⟨by simp, lcut⟩ (wcut hz9)
end
end K5
set_option Elab.async false
set_option linter.all false
set_option maxRecDepth 100000
set_option maxHeartbeats 4000000
namespace K5
open PySem PySem.Spec PyProof.Rows L2 Evl Xl SX Mi
/-- a method without defaults, called with its first parameter by place and the second by name -/
theorem kbn_of {K : PySem.W.Frag} {qual y : Str} {st : Stmt} {f : Addr} {fd : FuncData} (F : C8.Fun K "__init__" qual st f fd) (df : fd.defaults = .none)
    (h : ∀ (kV doc pm : Value) (an : Option Addr) (cdv ct : Value) (u w : Value), bindArgs (PySem.W.fnOf "__init__" qual (C8.fnArgs st) (C8.fnBody st) (C8.fnScope st) .none kV doc pm an cdv ct) ⟨[u], [(y, w)]⟩ = pure [(("self" : Str), u), (y, w)]) :
    KBn K fd ["self", y] 1 [y] (fun us ws => us ++ ws) (fun vs zs => vs ++ zs) := by
  obtain ⟨oc, od, dV, kV, doc, pm, an, cdv, ct, osl, rfl, lk, hcd⟩ := F.ex
  have e : dV = .none := df
  subst e
  refine ⟨fun s us ws _ h1 h2 => ?_, fun r1 r2 => r1.append r2⟩
  match us, h1, ws, h2 with
  | [u], _, [w], _ => exact .of_eq (h kV doc pm an cdv ct u w)
structure NumC (K : PySem.W.Frag) (mg : Str → Option Value) (CS CB : Addr) : Prop where
  mgS : mg "UseError" = some (.ref CS)
  mgB : mg "BadProgram" = some (.ref CB)
  exm : PySem.W.exmOne K (.ref CB) (.ref CS) = some true
  kit1 : PySem.W.kitOne K (.ref CB) (.ref CB) = some true
  exc : ExcC K CB
  xf : XfC K CB
  noV : PySem.W.findIn K (.ref CB) "value" = some none
def qn : Str := "_law_is_refused_at.<locals>.<lambda>"
abbrev TT1 (P : Addr) (H : Hp) : Prop := LamX.Tabs [(P, qn)] H
theorem extN_of {H H' : Hp} (e : Ex H H') : LamX.ExtN H H' := fun b o h _ => e b o h
theorem extN_trans {H H1 H2 : Hp} (a : LamX.ExtN H H1) (b : Ex H1 H2) : LamX.ExtN H H2 := fun c o h n => b c o (a c o h n)
theorem tabs_ex {T : List (Addr × Str)} {H H' : Hp} (t : LamX.Tabs T H) (e : Ex H H') : LamX.Tabs T H' := fun p hp => (t p hp).ext e
/-- a text refused with this number -/
def spRef (Pt : Addr) : Sp := fun vs H Q _ => ∃ (text : Wd) (k : Nat), vs = [.str (S text), .int k] ∧ TT1 Pt H ∧ (text.length ≤ 9000 ∧ (TL.spl [10] 0 [] text).length ≤ 901) ∧ readProg text = .error k ∧ k ≤ 1000 ∧ ∀ H', LamX.ExtN H H' → TT1 Pt H' → Q (.bl true) H'
abbrev nRf : List Str := ["text", "number", "caught"]
theorem scRf : FnScope nRf ["text", "number"] (C8.fnScope (top 56)) := C8.fnScope_by (by decide +kernel)
theorem scCa : FnScope ["call", "act", "caught"] ["call"] (C8.fnScope (top 43)) := C8.fnScope_by (by decide +kernel)
theorem log_small : ∀ k : Nat, k ≤ 1000 → ((k : Int)).natAbs.log2 < 1920 := by decide +kernel
section
variable {Pg : Program} {w : World} {K : PySem.W.Frag} {mg : Str → Option Value} {base : Heap} {f : Addr} {fd : FuncData}
theorem ok_refused {c Pt g CS CB CP CL C fP : Addr} {fdP : FuncData} {oc dV kV doc pm ct : Value} {od an : Option Addr} {osl : Array (Option Value)} {oc2 dV2 kV2 doc2 pm2 ct2 cd2 : Value} {od2 an2 : Option Addr} {osl2 : Array (Option Value)}
    (lk : K.lookup f = some ⟨oc, od, .func (PySem.W.fnOf "_law_is_refused_at" "_law_is_refused_at" (C8.fnArgs (top 56)) (C8.fnBody (top 56)) (C8.fnScope (top 56)) dV kV doc pm an (.ref c) ct), osl⟩) (hcd : PySem.W.codeIn K (.ref c) "_law_is_refused_at" = true) (TB : LamX.TabB base mg c Pt)
    (lk2 : K.lookup g = some ⟨oc2, od2, .func (PySem.W.fnOf "_law_caught" "_law_caught" (C8.fnArgs (top 43)) (C8.fnBody (top 43)) (C8.fnScope (top 43)) dV2 kV2 doc2 pm2 an2 cd2 ct2), osl2⟩) (hcd2 : PySem.W.codeIn K cd2 "_law_caught" = true) (mG : mg "_law_caught" = some (.ref g)) (kG : PySem.W.keepIn K (.ref g) = true)
    (bG : Binds K (PySem.W.fnOf "_law_caught" "_law_caught" (C8.fnArgs (top 43)) (C8.fnBody (top 43)) (C8.fnScope (top 43)) dV2 kV2 doc2 pm2 an2 cd2 ct2) ["call"] [])
    (T : Txt5 K w mg) (U : NumC K mg CS CB) (G : ProgC K mg CP) (M : Mk K CP fP) (FP : FnOk Pg w K mg base (L2.CX Pg w) 7 fP fdP ["self", "text"] (spPrX K CB CP CL C)) (bP : KBn K fdP ["self", "text"] 1 ["text"] (fun us ws => us ++ ws) (fun vs zs => vs ++ zs)) :
    FnOk Pg w K mg base C8.CX0 11 f (PySem.W.fnOf "_law_is_refused_at" "_law_is_refused_at" (C8.fnArgs (top 56)) (C8.fnBody (top 56)) (C8.fnScope (top 56)) dV kV doc pm an (.ref c) ct) ["text", "number"] (spRef Pt) := by
  refine fn_of lk hcd scRf (fun vs H Q E h => by obtain ⟨x, k, rfl, _⟩ := h; rfl) fun A outer s H vs Q E hr h => ?_
  obtain ⟨text, k, rfl, hT, hlt, hrd, hk, kk⟩ := h
  refine ⟨_, pss_cons (ps_set (i := 2) scRf.nd rfl (Or.inl rfl) (pe_ix ix_tup (LamX.pe_lamcall (T := [(Pt, qn)]) (TT := Xv.TTcaught K CS) (k := 8) (t := fun E => tMakeK CP 0 1 (spPrX K CB CP CL C) (fun vs zs => vs ++ zs) E tNil (tCons (tVar 0) tNil)) (by rfl) mG kG lk2 hcd2 bG scCa rfl (.inl rfl)
      (Xv.caught_gives rfl rfl rfl rfl U.mgS) TB rfl (by first | exact List.mem_singleton.mpr (Prod.ext rfl (by rfl)) | decide) (fun p hp _ => by rw [List.mem_singleton.mp hp]; rfl) hr (LamX.lamS_by (by show LamX.lamSB (C8.fnScope (top 56)) _ = true; decide +kernel)) rfl (fun _ _ _ _ _ => rfl)
      (fun A outer s H E f c' hr2 => pe_makeK0 (ks := ["text"]) M FP hr2 (by rfl) G.mgC bP (fun pins σ H s e s' I h => passAt (takes_of rfl rfl rfl rfl) σ pins H s e s' I h) (pk_cons (pv 0) pk_nil))) pe_int (fun _ _ => rfl)))
    (pss_one (ps_ret (pe_and (pe_callB Xv.call_isV (by rfl) T.isi_ (by decide +kernel) (pa_cons (pv 2) (pa_cons (pe_glob (v := .ref CB) (by rfl) U.mgB rfl) pa_nil))) (pe_one (pe_cmpR op_eq (pe_callB SkE.call_repr_int (by rfl) T.repr_ (by decide +kernel) (pa_cons (Xv.pe_xv (pv 2)) pa_nil)) (pe_callB SkE.call_repr_int (by rfl) T.repr_ (by decide +kernel) (pa_cons (pv 1) pa_nil)) (nomark _)))))), ?_⟩
  refine ⟨hT, fun H1 e1 hT1 => ?_⟩
  unfold Xv.TTcaught
  dsimp only
  refine ⟨_, rfl, rfl, rfl, fun p dx hp hdx hne => ?_⟩
  have x3 : Ex H1 (upd (upd H1 dx (.own p)) p (.ins CP dx [])) := ex_put hp (ex_put hdx (Ex.refl H1))
  refine ⟨p, dx, .str (S text), rfl, upd_same, .inr ⟨text, rfl, hlt, fun e he d H' ee hd hd' => ?_, fun ls hls => by rw [hrd] at hls; cases hls⟩⟩
  rw [hrd] at he
  injection he with he
  subst he
  refine ⟨U.exm, fun a t ha ht hta => ?_⟩
  have x5 : Ex H' (upd (upd H' t (.tup [.ref a, .non])) a (Xv.exv a (.ref CB) (some d))) := ex_put ha (ex_put ht (Ex.refl H'))
  have st : (upd (upd H' t (.tup [.ref a, .non])) a (Xv.exv a (.ref CB) (some d))) t = some (.tup [.ref a, .non]) := (upd_ne hta).trans upd_same
  have sa : (upd (upd H' t (.tup [.ref a, .non])) a (Xv.exv a (.ref CB) (some d))) a = some (Xv.exv a (.ref CB) (some d)) := upd_same
  have sd := x5 _ _ hd'
  generalize upd (upd H' t (.tup [.ref a, .non])) a (Xv.exv a (.ref CB) (some d)) = G5 at x5 st sa sd ⊢
  refine ⟨t, _, 0, .ref a, rfl, rfl, st_of st, rfl, ?_⟩
  refine s_ret (v := .bl true) (ev_is (ev_andV (a := true) (b := true) ?_ fun _ => ?_) rfl) fun H5 e5 => ?_
  · exact ev_cb (vs := [.ref a, .ref CB]) (ea_cons (ev_var rfl) (ea_cons ev_c ea_nil)) fun H4 e4 Q' q => ⟨.ref a, .ref CB, .ref CB, .ref CB, true, rfl, .own CB, .inr ⟨a, CB, d, _, rfl, rfl, e4 _ _ sa, e4 _ _ sd, U.exc⟩, U.kit1, q H4 (Ex.refl H4)⟩
  · have xv : Ev (Xv.tXv K "value" (tVar 2)) ([some (.str (S text)), some (.int (k : Nat)), some (.ref a)] : L2.St) G5 (.int (k : Nat)) := fun H4 e4 Q' q => ⟨_, rfl, a, CB, d, _, .int (k : Nat), rfl, e4 _ _ sa, e4 _ _ sd, U.xf, U.noV, rfl, q H4 (Ex.refl H4)⟩
    have rp : ∀ {te : TE} {σ : L2.St}, Ev te σ G5 (.int (k : Nat)) → Ev (tCB (fun xs H Q => ∃ i, xs = [V.int i] ∧ i.natAbs.log2 < 1920 ∧ Q (V.str (Str.ofString (toString i))) H) (tCons te tNil)) σ G5 (.str (Str.ofString (toString (k : Int)))) := fun h => ev_cb (ea_cons h ea_nil) fun H4 e4 Q' q => ⟨_, rfl, log_small k hk, q H4 (Ex.refl H4)⟩
    exact ev_is (ev_op (rp xv) (rp (ev_var rfl)) (rv_eq rfl)) (by simp)
  have eA := ((x3.trans ee).trans x5).trans e5
  exact kk H5 (extN_trans e1 eA) (tabs_ex hT1 eA)
end
end K5
set_option Elab.async false
set_option linter.all false
set_option maxRecDepth 100000
set_option maxHeartbeats 4000000
namespace Xu
open PySem PySem.Spec PyProof.Rows L2 PySem.Builtin PySem.Builtin.Str
/-- the first y replaced -/
def rep1 (x y z : Str) : Str := if ((occurrences x y 0 x.length 1).isEmpty || (y.length == 0 && z.length == 0)) = true then x else glued z (partsBetween x (occurrences x y 0 x.length 1) y.length)
theorem gives_rep1 (x y z : Str) (t u v c : Tok) (h0 : (u == 0 || v == 0) = false) (huv : (u == v) = false) (hyz : (y == z) = false) (hl : tooLong (x.length + (occurrences x y 0 x.length 1).length * z.length) = false) :
    Gives («str.replace» ⟨[.str x t, .str y u, .str z v, .int 1 c], []⟩) (if ((occurrences x y 0 x.length 1).isEmpty || (y.length == 0 && z.length == 0)) = true then .val (.str x t) else .str (glued z (partsBetween x (occurrences x y 0 x.length 1) y.length))) := by
  show Gives (if ((occurrences x y 0 x.length 1).isEmpty || (y.length == 0 && z.length == 0)) = true then (do rule "str.replace.nothing"; ret (.str x t)) else
      (do let same ← isSame (.str y u) (.str z v)
          if same = true then (do rule "str.replace.old-is-new"; ret (.str x t)) else
          if tooLong (x.length + (occurrences x y 0 x.length 1).length * z.length) = true then unsupported "str.replace:memory" else
          retStr (glued z (partsBetween x (occurrences x y 0 x.length 1) y.length)))) _
  cases hc : ((occurrences x y 0 x.length 1).isEmpty || (y.length == 0 && z.length == 0))
  · rw [isSame_str_other y z u v h0 huv hyz, hl]
    exact .of_eq rfl
  · exact .rule (.of_eq rfl)
section
variable {prog : Program} {w : World} {A : Around} {E : Value → Shared → Prop} {s : Shared} {x y z : Str} {t u v c : Tok} {Q : Value → Shared → Prop}
theorem call_rep1 (hu : u ≠ 0) (hv : v ≠ 0) (huv : u ≠ v) (hyz : (y == z) = false) (hb : x.length + 2 * z.length ≤ 16000000) (hr : (rep1 x y z).length ≤ 16000000)
    (hq : ∀ t' k, Q (.str (rep1 x y z) t') { s with toks := k }) : wpAny (model prog w) A (call (.builtin "str.replace") [.str x t, .str y u, .str z v, .int 1 c]) Q E s := by
  have h1 := StrLaws.occ_length_le x y 0 x.length 1
  have hl : tooLong (x.length + (occurrences x y 0 x.length 1).length * z.length) = false := by
    have h2 : (occurrences x y 0 x.length 1).length * z.length ≤ 1 * z.length := Nat.mul_le_mul_right _ h1
    unfold tooLong
    rw [sizeLine_eq]
    exact decide_eq_false (by omega)
  refine call_gives F.slot_str_replace (typeIs_str _ _ _) F.entry_str_replace (F.args_str_replace_4 _ _ _ _) (gives_rep1 x y z t u v c (by simp [hu, hv]) (by simp [huv]) hyz hl) ?_
  have hq' := hq
  unfold rep1 at hq' hr
  cases hc : ((occurrences x y 0 x.length 1).isEmpty || (y.length == 0 && z.length == 0))
  · rw [hc] at hq' hr
    simp only [Bool.false_eq_true, if_false] at hq' hr ⊢
    exact ⟨by rw [sizeLine_eq]; omega, hq' _ _⟩
  · rw [hc] at hq'
    simp only [if_true] at hq' ⊢
    exact hq' t s.toks
end
section
variable {X : Cx}
theorem PET.of {e : Expr} {t : TE} (h : PE X e t) : PET X e t := fun pins s σ H Q _ I q => h.run pins s σ H Q I q
def tRp (y z : Str) (to : TE) : TE := fun σ H Q => to σ H fun x H1 => ∃ a : Str, x = .str a ∧ a.length + (a.length + 1) * z.length ≤ 16777216 ∧ Q (.str (Txt.replace a y z)) H1
def tRp1 (y z : Str) (to : TE) : TE := fun σ H Q => to σ H fun x H1 => ∃ a : Str, x = .str a ∧ a.length + 2 * z.length ≤ 16000000 ∧ (rep1 a y z).length ≤ 16000000 ∧ Q (.str (rep1 a y z)) H1
variable {o : Expr} {to : TE} {y z : Str} {j0 j1 j2 : Nat} {c0 c1 c2 apos pos : Pos}
theorem pet_rp (ho : PET X o to) (hyz : (y == z) = false) (hbase : attributeBase o "replace" X.env (eval o X.env) = eval o X.env := by rfl) (hline : (apos.endLine == pos.line) = true := by rfl) :
    PET X (.Call (.Attribute o "replace" apos) [.Constant (.str y) j0 c0, .Constant (.str z) j1 c1] [] pos) (tRp y z to) := by
  intro pins s σ H Q h0 I h
  refine wpAny_Call_method_late hbase (by rfl) hline rfl (wpAny_mono (PySem.wpAny_toks (ho pins s σ H _ h0 I h)) (fun v s1 q => ?_) fun _ _ x => x.2)
  obtain ⟨hk, x, H1, I1, r1, a, rfl, hb, q1⟩ := q
  obtain ⟨tx, rfl⟩ := r1
  refine ⟨"str", _, F.plainAttrs_str, F.slot_str_replace, F.type_str_replace, typeIs_str _ _ _, (fun _ e => nomatch e), Calls.callWith_builtin (by rfl) (Calls.evalArgs_plain ?_)⟩
  show wpAny _ _ (spliced ((false, eval (.Constant (.str y) j0 c0) X.env) :: backTo pos (starEach [.Constant (.str z) j1 c1] X.env))) _ _ s1
  refine Calls.spliced_cons (Calls.Constant_str ?_)
  show wpAny _ _ (spliced ((false, eval (.Constant (.str z) j1 c1) X.env) :: backTo pos (starEach [] X.env))) _ _ _
  refine Calls.spliced_cons (Calls.Constant_str (Calls.spliced_nil ?_))
  exact PySem.SC.replace (show s1.toks ≠ 0 by omega) (show s1.toks + 1 ≠ 0 by omega) (show s1.toks ≠ s1.toks + 1 by omega) hyz hb fun t' k => ⟨.str (Txt.replace a y z), H1, I1.tok k, ⟨t', rfl⟩, q1⟩
theorem pet_rp1 (ho : PET X o to) (hyz : (y == z) = false) (hbase : attributeBase o "replace" X.env (eval o X.env) = eval o X.env := by rfl) (hline : (apos.endLine == pos.line) = true := by rfl) :
    PET X (.Call (.Attribute o "replace" apos) [.Constant (.str y) j0 c0, .Constant (.str z) j1 c1, .Constant (.int 1) j2 c2] [] pos) (tRp1 y z to) := by
  intro pins s σ H Q h0 I h
  refine wpAny_Call_method_late hbase (by rfl) hline rfl (wpAny_mono (PySem.wpAny_toks (ho pins s σ H _ h0 I h)) (fun v s1 q => ?_) fun _ _ x => x.2)
  obtain ⟨hk, x, H1, I1, r1, a, rfl, hb, hr, q1⟩ := q
  obtain ⟨tx, rfl⟩ := r1
  refine ⟨"str", _, F.plainAttrs_str, F.slot_str_replace, F.type_str_replace, typeIs_str _ _ _, (fun _ e => nomatch e), Calls.callWith_builtin (by rfl) (Calls.evalArgs_plain ?_)⟩
  show wpAny _ _ (spliced ((false, eval (.Constant (.str y) j0 c0) X.env) :: backTo pos (starEach [.Constant (.str z) j1 c1, .Constant (.int 1) j2 c2] X.env))) _ _ s1
  refine Calls.spliced_cons (Calls.Constant_str ?_)
  show wpAny _ _ (spliced ((false, eval (.Constant (.str z) j1 c1) X.env) :: backTo pos (starEach [.Constant (.int 1) j2 c2] X.env))) _ _ _
  refine Calls.spliced_cons (Calls.Constant_str ?_)
  show wpAny _ _ (spliced ((false, eval (.Constant (.int 1) j2 c2) X.env) :: backTo pos (starEach [] X.env))) _ _ _
  refine Calls.spliced_cons (wpAny_Constant_int (Calls.spliced_nil ?_))
  exact call_rep1 (show s1.toks ≠ 0 by omega) (show s1.toks + 1 ≠ 0 by omega) (show s1.toks ≠ s1.toks + 1 by omega) hyz hb hr fun t' k => ⟨.str (rep1 a y z), H1, I1.tok k, ⟨t', rfl⟩, q1⟩
/-- C(e): where a token is out -/
theorem pet_make {CX : CXT} {k : Nat} {f C : Addr} {fd : FuncData} {ps : List Str} {sp : Sp} {dvs : List V} {ds : List Value} {E : XK} {x : Str} {p : Pos} {e : Expr} {es : List Expr} {t : TA} (M : Mk X.K C f) (F : FnOk X.prog X.w X.K X.mg X.base CX k f fd ps sp) (hr : Room (k + 1) X.A) (hg : Gl X x) (hm : X.mg x = some (.ref C)) (hb : Binds X.K fd ps ds) (hd : Vals dvs ds) (hx : Passes CX X E)
    (ha : PAT X (e :: es) t) (hdb : (x == ("__debug__" : Str)) = false := by decide) (he : starEach (e :: es) X.env = (false, eval e X.env) :: starEach es X.env := by rfl) (hpl : (backTo pos (starEach es X.env)).any (·.1) = false := by rfl) : PET X (.Call (.Name x p) (e :: es) [] pos) (tMake C sp dvs E t) := by
  intro pins s σ H Q h0 I h
  refine wpAny_Call_Name_kw (ld_glob I hg hm (PySem.W.callWith_K (h₀ := X.base) I.ok.mod.kin M.kp (thn (ha pos pins s σ H _ h0 I h) fun us s1 z => ?_) he hpl) hdb)
  obtain ⟨vs, H1, I1, r, q⟩ := z
  exact ⟨I1.kIn, run_make M F hr hb hd hx I1 r q⟩
/-- behind a written number a token is out -/
theorem pa_int {n : Int} {j : Nat} {p : Pos} {es : List Expr} {t : TA} (h : PAT X es t) : PA X (.Constant (.int n) j p :: es) (tCons (tC (.int n)) t) := by
  refine ⟨fun pos pins s σ H Q I q => ?_⟩
  show wpAny _ _ (spliced ((false, eval (.Constant (.int n) j p) X.env) :: backTo pos (starEach es X.env))) _ _ s
  refine Calls.spliced_cons (wpAny_Constant_int ?_)
  refine thn (h pos pins { s with toks := s.toks + 1 } σ H _ (by show 1 ≤ s.toks + 1; omega) (I.tok _) q) fun us s2 z => ?_
  obtain ⟨xs, H2, I2, r2, q2⟩ := z
  exact ⟨V.int n :: xs, H2, I2, .cons (⟨_, rfl⟩ : RelV (.int n) _) r2, q2⟩
end
end Xu
set_option Elab.async false
set_option linter.all false
set_option maxRecDepth 100000
set_option maxHeartbeats 4000000
namespace Xo
open PySem PySem.Spec PyProof.Rows L2
/-- what may stand beside it -/
inductive Bes (K : PySem.W.Frag) (C : Addr) (H : Hp) : V → Prop where
  | str (x : Str) (h : PySem.W.notFirst K C (.type "str") = true) : Bes K C H (.str x)
  | int (i : Int) (h : PySem.W.notFirst K C (.type "int") = true) : Bes K C H (.int i)
  | non (h : PySem.W.notFirst K C (.type "NoneType") = true) : Bes K C H .non
  | tup {b : Addr} {xs : List V} (e : H b = some (.tup xs)) (h : PySem.W.notFirst K C (.type "tuple") = true) : Bes K C H (.ref b)
  | ins {b dy : Addr} {gs : List (Str × V)} (e : H b = some (.ins C dy gs)) : Bes K C H (.ref b)
def rOwnX (K : PySem.W.Frag) (C : Addr) (sp : Sp) (E : XK) : R2 := fun x y H Q => ∃ (a dx : Addr) (fs : List (Str × V)), x = .ref a ∧ H a = some (.ins C dx fs) ∧ Bes K C H y ∧ sp [.ref a, y] H (fun v H' => ∃ k, v = .bl k ∧ Q (.bl k) H') E
section
variable {X : Cx} {CX : CXT} {n : Nat} {C f : Addr} {fd : FuncData} {ps : List Str} {sp : Sp} {E : XK}
theorem run_ownX {A : Around} {pins : List (Addr × Obj)} {σ : L2.St} {H : Hp} {s : Shared} {a : Addr} {y : V} {u : Value} {R : Bool → Hp → Prop} (F : FnOk X.prog X.w X.K X.mg X.base CX n f fd ps sp) (hb : Binds X.K fd ps []) (hx : Passes CX X E) (hr : Room n A) (hf : A.frames = X.A.frames) (I : Inv X pins σ H s) (ry : RelV y u)
    (h : sp [.ref a, y] H (fun v H' => ∃ k, v = .bl k ∧ R k H') E) : wpAny (model X.prog X.w) A (call (.ref f) [.ref a, u]) (fun u s' => ∃ k H', u = .bool k ∧ Inv X pins σ H' s' ∧ R k H') X.xe s := by
  have z := I.env0
  have e1 : Env0 X.prog X.w X.K X.mg X.base A X.stack s H := ⟨by rw [hf]; exact z.frames, z.mod, z.bs, z.bsz, z.funs, z.frf, z.hok, z.bare⟩
  have bt := hb s [.ref a, u] I.kIn (F.len _ _ _ _ h)
  rw [List.append_nil] at bt
  refine wpAny_call (codeAny_mono (F.run A X.stack s H ⟨[.ref a, u], []⟩ [.ref a, u] [.ref a, y] _ E hr e1 bt (.cons rfl (.cons ry .nil)) h) fun r s' c => ?_)
  rcases r with er | fl
  · exact hx pins σ H s er s' I c
  · rcases fl with _ | _ | _ | u
    all_goals first
      | exact c.elim
      | skip
    obtain ⟨v, H', J, rv, k, rfl, q⟩ := I.after c
    exact ⟨k, H', rv, J, q⟩
theorem op_eqX (F : FnOk X.prog X.w X.K X.mg X.base CX n f fd ps sp) (hs : PySem.W.findIn X.K (.ref C) "__eq__" = some (some (.ref f))) (hf : PySem.W.isFn X.K (.ref f) = true) (hb : Binds X.K fd ps []) (hx : Passes CX X E) (hr : Room n X.A) : OpR X (compareOp .Eq) (rOwnX X.K C sp E) := by
  intro pins s σ H x y v u Q I rx ry h
  obtain ⟨a, dx, fs, rfl, ha, hy, q⟩ := h
  obtain rfl : v = Value.ref a := rx
  obtain ⟨_, O, _⟩ := ins_get I.hok ha
  obtain ⟨od, J, _⟩ := O.look
  obtain ⟨m, hF⟩ := I.fr
  have run := run_ownX (u := u) (R := fun k H' => Q (.bl k) H') F hb hx hr rfl I ry q
  have fin : ∀ {tb : Value}, (∀ M, PySem.W.Looks M s.heap (typeOf u) tb) → PySem.W.notFirst X.K C tb = true → wpAny (model X.prog X.w) X.A (compareOp .Eq (.ref a) u) (EP X pins σ Q) X.xe s := fun {tb} ht hn => by
    show wpAny (model X.prog X.w) X.A (richCompare .Eq (.ref a) u) (EP X pins σ Q) X.xe s
    refine PySem.W.cmp_K (op := .Eq) (tb := tb) hr.units0 hF I.ok.mod.kin J (ht _) hn hs hf (wpAny_mono run (fun r s' z => ?_) fun _ _ e => e)
    obtain ⟨k, H', rfl, J2, q2⟩ := z
    exact ⟨.bl k, H', J2, rfl, q2⟩
  cases hy with
  | str x hn =>
    obtain ⟨t, rfl⟩ := ry
    exact fin (fun M => .now) hn
  | int i hn =>
    obtain ⟨t, rfl⟩ := ry
    exact fin (fun M => .now) hn
  | non hn =>
    obtain rfl : u = Value.none := ry
    exact fin (fun M => .now) hn
  | @tup b xs e hn =>
    obtain rfl : u = Value.ref b := ry
    obtain ⟨z, its, r, ob, h1, h2⟩ := I.hok b _ e
    refine fin (tb := .type "tuple") (fun M => ?_) hn
    have z : PySem.W.Looks M s.heap (typeOf (.ref b)) ob.cls := (PySem.W.Looks.ld h1).andThen .now
    rw [h2.1] at z
    exact z
  | @ins b dy gs e =>
    obtain rfl : u = Value.ref b := ry
    obtain ⟨_, O', _⟩ := ins_get I.hok e
    obtain ⟨od', J', _⟩ := O'.look
    exact fin (tb := .ref C) (fun M => J'.type) (by simp [PySem.W.notFirst])
end
end Xo
set_option Elab.async false
set_option linter.all false
set_option maxRecDepth 100000
set_option maxHeartbeats 1000000
namespace Mi
abbrev RUNB : Wd := [114, 117, 110, 32]
/-- the word does not end so -/
def NoRun (w : Wd) : Prop := w.drop (w.length - 3) ≠ [114, 117, 110]
instance (w : Wd) : Decidable (NoRun w) := inferInstanceAs (Decidable (_ ≠ _))
theorem NoRun.not {w b : Wd} (h : NoRun w) : w ≠ b ++ [114, 117, 110] := fun z => h (by
  rw [z, List.length_append]
  show (b ++ [114, 117, 110]).drop (b.length + 3 - 3) = _
  rw [Nat.add_sub_cancel, List.drop_left])
theorem get_of {l : Wd} {k : Nat} (h : (l.drop k).take 4 = RUNB) : l[k]? = some 114 ∧ l[k + 1]? = some 117 ∧ l[k + 2]? = some 110 ∧ l[k + 3]? = some 32 := by
  have at_ : ∀ i, i < 4 → l[k + i]? = RUNB[i]? := fun i hi => by rw [← h, List.getElem?_take, if_pos hi, List.getElem?_drop]
  exact ⟨at_ 0 (by decide), at_ 1 (by decide), at_ 2 (by decide), at_ 3 (by decide)⟩
theorem word_end {w : Wd} {k : Nat} (h32 : 32 ∉ w) (h : (w.drop k).take 4 = RUNB) : False := h32 (List.mem_of_getElem? (get_of h).2.2.2)
theorem word_sep {w r : Wd} {s k : Nat} (h32 : 32 ∉ w) (hs : s = 32 ∨ s = 10) (h : ((w ++ s :: r).drop k).take 4 = RUNB) : (w.length + 1 ≤ k ∧ (r.drop (k - (w.length + 1))).take 4 = RUNB) ∨ (s = 32 ∧ ∃ b, w = b ++ [114, 117, 110] ∧ k = b.length) := by
  obtain ⟨g0, g1, g2, g3⟩ := get_of h
  by_cases hk : w.length + 1 ≤ k
  · refine .inl ⟨hk, ?_⟩
    have e : (w ++ s :: r).drop k = r.drop (k - (w.length + 1)) := by
      have : w ++ s :: r = (w ++ [s]) ++ r := by simp
      rw [this, List.drop_append, List.drop_eq_nil_of_le (by simp; omega), List.nil_append]
      congr 1
      simp
    rw [← e]; exact h
  · have sep : (w ++ s :: r)[w.length]? = some s := by rw [List.getElem?_append_right (Nat.le_refl _), Nat.sub_self]; rfl
    by_cases h3 : k + 3 < w.length
    · rw [List.getElem?_append_left h3] at g3
      exact absurd (List.mem_of_getElem? g3) h32
    · by_cases h4 : k + 3 = w.length
      · rw [h4, sep] at g3
        injection g3 with g3
        refine .inr ⟨g3, w.take k, ?_, by rw [List.length_take]; omega⟩
        rw [List.getElem?_append_left (by omega)] at g0 g1 g2
        have d : w.drop k = [114, 117, 110] := by
          refine List.ext_getElem? fun i => ?_
          rw [List.getElem?_drop]
          match i with
          | 0 => exact g0
          | 1 => exact g1
          | 2 => exact g2
          | i + 3 => rw [List.getElem?_eq_none (by omega)]; rfl
        rw [← d, List.take_append_drop]
      · exfalso
        have hw : w.length = k ∨ w.length = k + 1 ∨ w.length = k + 2 := by omega
        rcases hw with e | e | e <;> rw [e] at sep
        · rw [sep] at g0; injection g0 with g0; rcases hs with z | z <;> omega
        · rw [sep] at g1; injection g1 with g1; rcases hs with z | z <;> omega
        · rw [sep] at g2; injection g2 with g2; rcases hs with z | z <;> omega
/-- a line's words, what stands behind it -/
theorem line_sep {r : Wd} : ∀ {ws : List Wd} {k : Nat}, ws ≠ [] → (∀ w ∈ ws, 32 ∉ w ∧ NoRun w) → ((TL.joinL [32] ws ++ 10 :: r).drop k).take 4 = RUNB → (TL.joinL [32] ws).length + 1 ≤ k ∧ (r.drop (k - ((TL.joinL [32] ws).length + 1))).take 4 = RUNB := by
  intro ws
  induction ws with
  | nil => intro k h; exact absurd rfl h
  | cons w ws ih =>
    intro k _ hw h
    obtain ⟨w1, w2⟩ := hw w (List.mem_cons_self ..)
    cases ws with
    | nil =>
      rw [TL.joinL.eq_2] at h ⊢
      rcases word_sep w1 (.inr rfl) h with q | ⟨q, _⟩
      · exact q
      · cases q
    | cons v ws =>
      rw [TL.joinL.eq_3] at h ⊢
      have e : (w ++ ([32] ++ TL.joinL [32] (v :: ws))) ++ 10 :: r = w ++ 32 :: (TL.joinL [32] (v :: ws) ++ 10 :: r) := by simp
      rw [e] at h
      rcases word_sep w1 (.inl rfl) h with ⟨q1, q2⟩ | ⟨_, b, q, _⟩
      · obtain ⟨q3, q4⟩ := ih (by simp) (fun x hx => hw x (List.mem_cons_of_mem _ hx)) q2
        have el : (w ++ ([32] ++ TL.joinL [32] (v :: ws))).length = w.length + 1 + (TL.joinL [32] (v :: ws)).length := by simp; omega
        rw [el]
        refine ⟨by omega, ?_⟩
        have ek : k - (w.length + 1 + (TL.joinL [32] (v :: ws)).length + 1) = k - (w.length + 1) - ((TL.joinL [32] (v :: ws)).length + 1) := by omega
        rw [ek]; exact q4
      · exact absurd q w2.not
theorem line_end : ∀ {ws : List Wd} {k : Nat}, (∀ w ∈ ws, 32 ∉ w ∧ NoRun w) → ((TL.joinL [32] ws).drop k).take 4 = RUNB → False := by
  intro ws
  induction ws with
  | nil => intro k _ h; rw [TL.joinL.eq_1] at h; simp at h
  | cons w ws ih =>
    intro k hw h
    obtain ⟨w1, w2⟩ := hw w (List.mem_cons_self ..)
    cases ws with
    | nil => rw [TL.joinL.eq_2] at h; exact word_end w1 h
    | cons v ws =>
      rw [TL.joinL.eq_3] at h
      rcases word_sep (r := TL.joinL [32] (v :: ws)) w1 (.inl rfl) h with ⟨_, q2⟩ | ⟨_, b, q, _⟩
      · exact ih (fun x hx => hw x (List.mem_cons_of_mem _ hx)) q2
      · exact w2.not q
/-- what stands ahead of the last line -/
def preT : List Wd → Wd
  | [] => []
  | l :: ls => l ++ 10 :: preT ls
theorem text_pre : ∀ {ls : List Wd} {l : Wd}, textT (ls ++ [l]) = preT ls ++ l := by
  intro ls
  induction ls with
  | nil => intro l; exact TL.joinL.eq_2 ..
  | cons a ls ih =>
    intro l
    have h := ih (l := l)
    unfold textT at h ⊢
    cases ls with
    | nil =>
      show TL.joinL [10] (a :: [l]) = _
      rw [TL.joinL.eq_3, TL.joinL.eq_2]; simp [preT]
    | cons b ls =>
      show TL.joinL [10] (a :: b :: (ls ++ [l])) = _
      rw [TL.joinL.eq_3]
      have h : TL.joinL [10] (b :: (ls ++ [l])) = preT (b :: ls) ++ l := h
      rw [h]; simp [preT]
/-- the word run, with a blank behind it, stands there alone -/
theorem run_one {E : List Wd} (hE : ∀ w ∈ E, 32 ∉ w ∧ NoRun w) : ∀ {ls : List (List Wd)} {k : Nat}, (∀ ws ∈ ls, ws ≠ [] ∧ ∀ w ∈ ws, 32 ∉ w ∧ NoRun w) →
    ((preT (ls.map (TL.joinL [32])) ++ ([114, 117, 110] ++ 32 :: TL.joinL [32] E)).drop k).take 4 = RUNB → k = (preT (ls.map (TL.joinL [32]))).length := by
  intro ls
  induction ls with
  | nil =>
    intro k _ h
    rcases word_sep (w := [114, 117, 110]) (s := 32) (r := TL.joinL [32] E) (by decide) (.inl rfl) h with ⟨_, q⟩ | ⟨_, b, q1, q2⟩
    · exact (line_end hE q).elim
    · have := congrArg List.length q1
      simp at this
      rw [q2, this]; rfl
  | cons ws ls ih =>
    intro k hl h
    obtain ⟨h1, h2⟩ := hl ws (List.mem_cons_self ..)
    have e : preT ((ws :: ls).map (TL.joinL [32])) ++ ([114, 117, 110] ++ 32 :: TL.joinL [32] E) = TL.joinL [32] ws ++ 10 :: (preT (ls.map (TL.joinL [32])) ++ ([114, 117, 110] ++ 32 :: TL.joinL [32] E)) := by simp [preT]
    rw [e] at h
    obtain ⟨q1, q2⟩ := line_sep h1 h2 h
    have := ih (fun x hx => hl x (List.mem_cons_of_mem _ hx)) q2
    have el : (preT ((ws :: ls).map (TL.joinL [32]))).length = (TL.joinL [32] ws).length + 1 + (preT (ls.map (TL.joinL [32]))).length := by simp [preT]; omega
    rw [el]; omega
theorem written_chars {w : Wd} (h : written w = true) : ∀ c ∈ w, c = 45 ∨ isFig c = true := by
  have hd : (digs w).all isFig = true := by
    apply Classical.byContradiction; intro hn
    rw [Bool.not_eq_true] at hn
    unfold written intOf at h; rw [if_pos (Or.inr hn)] at h; simp at h
  intro c hc
  have hf : ∀ c ∈ digs w, isFig c = true := fun c hc => List.all_eq_true.1 hd c hc
  unfold digs at hf
  split at hf
  · rcases List.mem_cons.1 hc with rfl | h1
    · exact .inl rfl
    · exact .inr (hf c h1)
  · exact .inr (hf c hc)
theorem written_norun {w : Wd} (h : written w = true) : NoRun w := fun z => by
  have hm : 114 ∈ w := List.mem_of_mem_drop (i := w.length - 3) (by rw [z]; decide)
  rcases written_chars h 114 hm with q | q
  · cases q
  · revert q; decide
theorem ari_norun {s : Wd} {k : Nat} (h : ari s = some k) : NoRun s := by
  have : s ∈ ARI.map (·.1) := by
    unfold ari at h
    apply Classical.byContradiction; intro hn
    rw [show ARI.lookup s = none from List.lookup_eq_none_iff.2 fun p hp => by
      rw [bne_iff_ne]; rintro rfl; exact hn (List.mem_map_of_mem hp)] at h
    cases h
  have all : ∀ x ∈ ARI.map (·.1), NoRun x := by decide
  exact all s this
theorem names_norun : (∀ n ∈ BNS, NoRun n) ∧ ∀ n ∈ NMS4, NoRun n := by decide
theorem Tr.norun {P : List Wd} (hP : ∀ n ∈ P, n ∈ NMS4) : ∀ {e : Tr} {G : List Wd}, e.Ok → e.Sc P G → (∀ n ∈ G, n ∈ BNS) → (∀ n ∈ e.bnd, n ∈ BNS) → ∀ w ∈ e.words, NoRun w := by
  intro e
  induction e with
  | leaf w =>
    intro G ok sc hG hb x hx
    rw [List.mem_singleton.1 hx]
    rcases ok.2 with h | h
    · rcases sc h with q | q
      · exact names_norun.1 w (hG w q)
      · exact names_norun.2 w (hP w q)
    · exact written_norun h
  | un s n a iha =>
    intro G ok sc hG hb x hx
    rcases List.mem_cons.1 hx with rfl | hx
    · exact ari_norun ok.1
    · have hn : ∀ y ∈ nmW n, y ∈ BNS := fun y hy => hb y (List.mem_append_left _ hy)
      rcases List.mem_append.1 hx with hx | hx
      · exact names_norun.1 x (hn x hx)
      · exact iha ok.2.2 sc (fun y hy => (List.mem_append.1 hy).elim (hn y) (hG y)) (fun y hy => hb y (List.mem_append_right _ hy)) x hx
  | bi s n a b iha ihb =>
    intro G ok sc hG hb x hx
    rcases List.mem_cons.1 hx with rfl | hx
    · exact ari_norun ok.1
    · have hn : ∀ y ∈ nmW n, y ∈ BNS := fun y hy => hb y (List.mem_append_left _ hy)
      rcases List.mem_append.1 hx with hx | hx
      · exact names_norun.1 x (hn x hx)
      · rcases List.mem_append.1 hx with hx | hx
        · exact iha ok.2.2.1 sc.1 hG (fun y hy => hb y (List.mem_append_right _ (List.mem_append_left _ hy))) x hx
        · exact ihb ok.2.2.2 sc.2 (fun y hy => (List.mem_append.1 hy).elim (hn y) (hG y)) (fun y hy => hb y (List.mem_append_right _ (List.mem_append_right _ hy))) x hx
  | tri s a b c iha ihb ihc =>
    intro G ok sc hG hb x hx
    rcases List.mem_cons.1 hx with rfl | hx
    · exact ari_norun ok.1
    · rcases List.mem_append.1 hx with hx | hx
      · exact iha ok.2.2.1 sc.1 hG (fun y hy => hb y (List.mem_append_left _ hy)) x hx
      · rcases List.mem_append.1 hx with hx | hx
        · exact ihb ok.2.2.2.1 sc.2.1 hG (fun y hy => hb y (List.mem_append_right _ (List.mem_append_left _ hy))) x hx
        · exact ihc ok.2.2.2.2 sc.2.2 hG (fun y hy => hb y (List.mem_append_right _ (List.mem_append_right _ hy))) x hx
end Mi
set_option Elab.async false
set_option linter.all false
set_option maxRecDepth 100000
set_option maxHeartbeats 1000000
namespace Mi
open PySem PySem.StrLaws SX
abbrev NLR : Wd := [10, 114, 117, 110, 32]
abbrev PL0 : Wd := [112, 108, 117, 115, 32, 48, 32]
abbrev PL1 : Wd := [112, 108, 117, 115, 32, 49, 32]
theorem rl_clean {z : Wd} : ∀ {l r : Wd}, 10 ∉ l → replL NLR z (l ++ r) = l ++ replL NLR z r := by
  intro l
  induction l with
  | nil => intro r _; rfl
  | cons c l ih =>
    intro r h
    show replL NLR z (c :: (l ++ r)) = _
    rw [replL_miss, ih fun q => h (List.mem_cons_of_mem _ q)]
    · rfl
    · intro q
      have : c = 10 := by
        have := congrArg List.head? q
        simpa using this
      exact h (by rw [this]; exact List.mem_cons_self ..)
theorem rl_part {z r : Wd} : replL NLR z (10 :: 112 :: r) = 10 :: replL NLR z (112 :: r) := by
  rw [replL_miss]
  intro q
  have := congrArg (fun l => l[1]?) q
  simp at this
theorem rl_run {z E : Wd} (h : 10 ∉ E) : replL NLR z (NLR ++ E) = z ++ E := by
  show replL NLR z (10 :: ([114, 117, 110, 32] ++ E)) = _
  rw [replL_hit (by decide) rfl]
  have e : (10 :: ([114, 117, 110, 32] ++ E)).drop NLR.length = E := rfl
  rw [e]
  have := rl_clean (z := z) (r := []) h
  rw [List.append_nil, replL_nil, List.append_nil] at this
  rw [this]
theorem rl_text {E : Wd} (h : 10 ∉ E) : ∀ {ls : List Wd}, ls ≠ [] → (∀ l ∈ ls, 10 ∉ l ∧ ∃ r, l = 112 :: r) → replL NLR (NLR ++ PL0) (preT ls ++ (RUNB ++ E)) = preT ls ++ (RUNB ++ (PL0 ++ E)) := by
  intro ls
  induction ls with
  | nil => intro h; exact absurd rfl h
  | cons l ls ih =>
    intro _ hl
    obtain ⟨h1, _⟩ := hl l (List.mem_cons_self ..)
    cases ls with
    | nil =>
      have e : preT [l] ++ (RUNB ++ E) = l ++ (NLR ++ E) := by simp [preT]
      rw [e, rl_clean h1, rl_run h]
      simp [preT]
    | cons m ls =>
      obtain ⟨_, r, hr⟩ := hl m (by simp)
      have e : preT (l :: m :: ls) ++ (RUNB ++ E) = l ++ 10 :: (preT (m :: ls) ++ (RUNB ++ E)) := by simp [preT]
      have e2 : preT (m :: ls) ++ (RUNB ++ E) = 112 :: (r ++ 10 :: (preT ls ++ (RUNB ++ E))) := by rw [hr]; simp [preT]
      have hih := ih (by simp) fun x hx => hl x (List.mem_cons_of_mem _ hx)
      rw [e, rl_clean h1, e2, rl_part, ← e2, hih]
      simp [preT]
theorem S_of {s : Str} {l : Wd} (h : s.cps.toList = l) : s = S l := by cases s; subst h; simp [S]
theorem S_cps {l : Wd} : (S l).cps.toList = l := by simp [S]
/-- the first replacing -/
theorem first_rp {E : Wd} {ls : List Wd} (h : 10 ∉ E) (hl : ∀ l ∈ ls, 10 ∉ l ∧ ∃ r, l = 112 :: r) :
    Txt.replace (S (preT ls ++ (RUNB ++ E))) (S NLR) (S (NLR ++ PL0)) = S (preT ls ++ (RUNB ++ ((if ls = [] then [] else PL0) ++ E))) := by
  apply S_of
  rw [replace_list (by decide), S_cps, S_cps, S_cps]
  by_cases z : ls = []
  · subst z
    rw [if_pos rfl]
    have h2 : 10 ∉ RUNB ++ E := fun q => (List.mem_append.1 q).elim (by decide) h
    have := rl_clean (z := NLR ++ PL0) (r := []) h2
    rw [List.append_nil, replL_nil, List.append_nil] at this
    exact this
  · rw [if_neg z, rl_text h z hl]
/-- the second one -/
theorem second_rp {T U : Wd} {i0 : Nat} (hT : T = U ++ (RUNB ++ T.drop (i0 + 4))) (hU : U.length = i0) (one : ∀ k, (T.drop k).take 4 = RUNB → k = i0) : Xu.rep1 (S T) (S RUNB) (S (RUNB ++ PL1)) = S (U ++ ((RUNB ++ PL1) ++ T.drop (i0 + 4))) := by
  have hx : (S T).length = T.length := by simp [S, Str.length]
  have hd : (T.drop i0).take 4 = RUNB := by
    rw [hT, List.drop_append, List.drop_eq_nil_of_le (by omega), hU, Nat.sub_self]; rfl
  have len : T.length = i0 + 4 + (T.drop (i0 + 4)).length := by
    have := congrArg List.length hT
    rw [List.length_append, List.length_append, hU] at this
    have e : RUNB.length = 4 := rfl
    omega
  have at0 : At (S T) (S RUNB) (S T).length i0 := take_at (by decide) (by rw [S_cps, S_cps]; exact hd)
  have cuts : Builtin.Str.occurrences (S T) (S RUNB) 0 (S T).length 1 = [i0] := by
    have h1 := occ_length_le (S T) (S RUNB) 0 (S T).length 1
    have h2 := (found_iff (S T) (S RUNB)).2 ⟨i0, at0.1, at0.2⟩
    have h3 := occ_spec (S T) (S RUNB) 0 (S T).length 1
    generalize Builtin.Str.occurrences (S T) (S RUNB) 0 (S T).length 1 = c at h1 h2 h3
    match c, h1, h2, h3 with
    | [], _, h2, _ => simp at h2
    | [i], _, _, h3 =>
      have := at_take (x := S T) (y := S RUNB) (h3 i (by simp))
      rw [S_cps, S_cps] at this
      rw [one i this]
    | _ :: _ :: _, h1, _, _ => simp at h1
  have e1 : Xu.rep1 (S T) (S RUNB) (S (RUNB ++ PL1)) = Builtin.Str.glued (S (RUNB ++ PL1)) (Builtin.Str.partsBetween (S T) [i0] (S RUNB).length) := by
    unfold Xu.rep1
    rw [cuts, if_neg]
    intro z
    have z1 : (S RUNB).length = 4 := rfl
    rw [z1] at z
    revert z
    simp
  rw [e1]
  apply S_of
  have pb : Builtin.Str.partsBetween (S T) [i0] (S RUNB).length = [Builtin.Str.strSub (S T) 0 i0, Builtin.Str.strSub (S T) (i0 + 4) (S T).length] := rfl
  rw [pb, glued_list]
  have s1 : (Builtin.Str.strSub (S T) 0 i0).cps.toList = U := by
    show ((S T).cps.extract 0 i0).toList = U
    rw [Array.toList_extract, S_cps]
    rw [List.extract_eq_drop_take, List.drop_zero, Nat.sub_zero, hT, List.take_append_of_le_length (by omega), ← hU, List.take_length]
  have s2 : (Builtin.Str.strSub (S T) (i0 + 4) (S T).length).cps.toList = T.drop (i0 + 4) := by
    show ((S T).cps.extract (i0 + 4) (S T).length).toList = _
    rw [Array.toList_extract, S_cps, List.extract_eq_drop_take, hx, List.take_of_length_le (by rw [List.length_drop]; exact Nat.le_refl _)]
  show (Builtin.Str.strSub (S T) 0 i0).cps.toList ++ ((S (RUNB ++ PL1)).cps.toList ++ ((Builtin.Str.strSub (S T) (i0 + 4) (S T).length).cps.toList ++ [])) = _
  rw [s1, s2, S_cps, List.append_nil]
end Mi
set_option Elab.async false
set_option linter.all false
set_option maxRecDepth 100000
set_option maxHeartbeats 1000000
namespace Mi
open PySem PySem.StrLaws SX
abbrev PLUSB : Wd := [112, 108, 117, 115]
def plusT (n : Nat) (e : Tr) : Tr := .bi PLUSB [] (.leaf [n]) e
section
variable {ps : List Pt} {e : Tr} {n : Nat}
theorem plus_words : (plusT n e).words = PLUSB :: [n] :: e.words := by
  show PLUSB :: (nmW [] ++ ([[n]] ++ e.words)) = _
  rfl
theorem plus_ok (hn : n = 48 ∨ n = 49) (ok : e.Ok) : (plusT n e).Ok := by
  refine ⟨by decide, ⟨fun h => absurd h (by decide), fun _ => rfl⟩, ?_, ok⟩
  rcases hn with rfl | rfl
  · exact ⟨by decide, .inr (by decide)⟩
  · exact ⟨by decide, .inr (by decide)⟩
theorem plus_run (hn : n = 48 ∨ n = 49) (or : RunOk ps e) (hd : e.dep ≤ 29) (hl : (runWs e).length ≤ 118) : RunOk ps (plusT n e) := by
  have bb : (plusT n e).bnd = e.bnd := by
    show nmW [] ++ ([] ++ e.bnd) = e.bnd
    rfl
  refine ⟨⟨plus_ok hn or.good.ok, ?_, ?_⟩, ?_, fun p hp => by rw [bb]; exact or.apart p hp⟩
  · show 1 + max 1 e.dep ≤ 30
    omega
  · refine ⟨fun hf => ?_, or.good.sc⟩
    exfalso
    rcases hn with rfl | rfl <;> revert hf <;> decide
  · unfold runWs at hl ⊢
    rw [plus_words]
    simp only [List.length_cons] at hl ⊢
    omega
theorem expr_words : ∃ w r, e.words = w :: r := by obtain ⟨r, h⟩ := e.words_eq; exact ⟨_, _, h⟩
theorem runT_eq : runT e = RUNB ++ TL.joinL [32] e.words := by
  obtain ⟨w, r, h⟩ := expr_words (e := e)
  unfold runT runWs
  rw [h, TL.joinL.eq_3]
  rfl
theorem plus_join : TL.joinL [32] (plusT n e).words = [112, 108, 117, 115, 32, n, 32] ++ TL.joinL [32] e.words := by
  obtain ⟨w, r, h⟩ := expr_words (e := e)
  rw [plus_words, h, TL.joinL.eq_3, TL.joinL.eq_3]
  rfl
theorem expr_plain (ok : e.Ok) : 10 ∉ TL.joinL [32] e.words := plain_join fun w hw => (Tr.plain ok w hw).2
theorem part_p {p : Pt} : ∃ r, partT p = 112 :: r := by
  unfold partT partWs
  rw [TL.joinL.eq_3]
  exact ⟨_, rfl⟩
theorem pre_text {l : Wd} : textT (ps.map partT ++ [l]) = preT (ps.map partT) ++ l := text_pre
/-- the text with plus 0 -/
theorem text_first (ok : PtsOk ps) (or : RunOk ps e) : Txt.replace (S (textT (ps.map partT ++ [runT e]))) (S NLR) (S (NLR ++ PL0)) = S (textT (ps.map partT ++ [runT (if ps = [] then e else plusT 48 e)])) := by
  rw [pre_text, runT_eq, first_rp (expr_plain or.good.ok) fun l hl => ?_, pre_text, runT_eq]
  · by_cases z : ps = []
    · subst z; rfl
    · rw [if_neg z, if_neg (by simpa using z), plus_join]
  · refine ⟨partT_plain ok l hl, ?_⟩
    obtain ⟨p, _, rfl⟩ := List.mem_map.1 hl
    exact part_p
/-- the text with plus 1 -/
theorem text_second (ok : PtsOk ps) (or : RunOk ps e) (bn : Bns ps e) : Xu.rep1 (S (textT (ps.map partT ++ [runT (if ps = [] then e else plusT 48 e)]))) (S RUNB) (S (RUNB ++ PL1)) = S (textT (ps.map partT ++ [runT (plusT 49 (if ps = [] then e else plusT 48 e))])) := by
  have wse : ∀ w ∈ e.words, 32 ∉ w ∧ NoRun w := fun w hw => ⟨(Tr.plain or.good.ok w hw).1, Tr.norun bn.nm or.good.ok or.good.sc (fun x hx => by cases hx) bn.br w hw⟩
  have ws : ∀ w ∈ (if ps = [] then e else plusT 48 e).words, 32 ∉ w ∧ NoRun w := by
    split
    · exact wse
    · intro w hw
      rw [plus_words] at hw
      rcases List.mem_cons.1 hw with rfl | hw
      · exact ⟨by decide, by decide⟩
      · rcases List.mem_cons.1 hw with rfl | hw
        · exact ⟨by decide, by decide⟩
        · exact wse w hw
  have wp : ∀ c ∈ ps.map partW, c ≠ [] ∧ ∀ w ∈ c, 32 ∉ w ∧ NoRun w := fun c hc => by
    obtain ⟨p, hp, rfl⟩ := List.mem_map.1 hc
    refine ⟨by unfold partW partWs; simp, fun w hw => ?_⟩
    have g := ok.good p hp
    unfold partW partWs at hw
    rcases List.mem_cons.1 hw with rfl | hw
    · exact ⟨by decide, by decide⟩
    · rcases List.mem_cons.1 hw with rfl | hw
      · exact ⟨(plain_free (ok.free p hp)).1, names_norun.2 _ (bn.nm _ (List.mem_map_of_mem hp))⟩
      · exact ⟨(Tr.plain g.ok w hw).1, Tr.norun bn.nm g.ok g.sc (fun x hx => by cases hx) (bn.bp p hp) w hw⟩
  generalize (if ps = [] then e else plusT 48 e) = e1 at ws ⊢
  have key := fun k => run_one ws (ls := ps.map partW) (k := k) wp
  rw [parts_lines] at key
  rw [pre_text, pre_text, runT_eq, runT_eq, plus_join]
  have hd : (preT (ps.map partT) ++ (RUNB ++ TL.joinL [32] e1.words)).drop ((preT (ps.map partT)).length + 4) = TL.joinL [32] e1.words := by
    rw [← List.append_assoc]
    have : (preT (ps.map partT) ++ RUNB).length = (preT (ps.map partT)).length + 4 := by rw [List.length_append]; rfl
    rw [← this, List.drop_left]
  have h2 := second_rp (T := preT (ps.map partT) ++ (RUNB ++ TL.joinL [32] e1.words)) (U := preT (ps.map partT)) (by rw [hd]) rfl key
  rw [hd] at h2
  rw [h2]
  simp
theorem text_longer : textT (ps.map partT ++ [runT (plusT n e)]) ≠ textT (ps.map partT ++ [runT e]) := by
  rw [pre_text, pre_text, runT_eq, runT_eq, plus_join]
  intro h
  have := congrArg List.length h
  simp only [List.length_append, List.length_cons] at this
  omega
theorem text_longer2 {m : Nat} : textT (ps.map partT ++ [runT (plusT n (if ps = [] then e else plusT m e))]) ≠ textT (ps.map partT ++ [runT e]) := by
  split
  · exact text_longer
  · rw [pre_text, pre_text, runT_eq, runT_eq, plus_join, plus_join]
    intro h
    have := congrArg List.length h
    simp only [List.length_append, List.length_cons] at this
    omega
/-- the run with plus ahead of it -/
theorem plus_two (or : RunOk ps e) (bn : Bns ps e) (hl : (runWs e).length ≤ 100) : RunOk ps (plusT 49 (if ps = [] then e else plusT 48 e)) := by
  have hd := bn.dp
  split
  · exact plus_run (.inr rfl) or (by omega) (by omega)
  · refine plus_run (.inr rfl) (plus_run (.inl rfl) or (by omega) (by omega)) (by show 1 + max 1 e.dep ≤ 29; omega) ?_
    unfold runWs at hl ⊢
    rw [plus_words]
    simp only [List.length_cons] at hl ⊢
    omega
end
end Mi
set_option Elab.async false
set_option linter.all false
set_option maxRecDepth 100000
set_option maxHeartbeats 1000000
namespace Mi
def Low (w : Wd) : Prop := ∀ c ∈ w, c < 128
theorem low_sign {c : Nat} (h : (isLet c || isFig c) = true) : c < 128 := by
  rcases (Bool.or_eq_true _ _ ▸ h : isLet c = true ∨ isFig c = true) with h | h
  · have : c ∈ LET := of_decide_eq_true h
    have all : ∀ x ∈ LET, x < 128 := by decide
    exact all c this
  · have : c ∈ FIG := of_decide_eq_true h
    have all : ∀ x ∈ FIG, x < 128 := by decide
    exact all c this
theorem low_free {w : Wd} (h : okFree w = true) : Low w := by
  simp only [okFree, nameOk, Bool.and_eq_true] at h
  obtain ⟨⟨⟨_, h⟩, _⟩, _⟩ := h
  exact fun c hc => low_sign (List.all_eq_true.1 h c hc)
theorem low_ari {w : Wd} {k : Nat} (h : ari w = some k) : Low w := by
  have : w ∈ ARI.map (·.1) := by
    unfold ari at h
    apply Classical.byContradiction; intro hn
    rw [show ARI.lookup w = none from List.lookup_eq_none_iff.2 fun p hp => by
      rw [bne_iff_ne]; rintro rfl; exact hn (List.mem_map_of_mem hp)] at h
    cases h
  have all : ∀ x ∈ ARI.map (·.1), Low x := by unfold Low; decide
  exact all w this
theorem low_written {w : Wd} (h : written w = true) : Low w := fun c hc => by
  rcases written_chars h c hc with rfl | h
  · decide
  · exact low_sign (by rw [h, Bool.or_true])
theorem Tr.low : ∀ {e : Tr}, e.Ok → ∀ w ∈ e.words, Low w := by
  have nm : ∀ {s n : Wd}, bindOk s n → ∀ w ∈ nmW n, Low w := fun {s n} h w hw => by
    unfold nmW at hw; split at hw
    · cases hw
    · rename_i hn
      rw [List.mem_singleton.1 hw]
      cases hb : isBind s with
      | true => exact low_free (h.1 hb).2
      | false => exact absurd (h.2 hb) hn
  intro e
  induction e with
  | leaf w => intro ok x hx; rw [List.mem_singleton.1 hx]; rcases ok.2 with h | h; exact low_free h; exact low_written h
  | un s n a iha =>
    intro ok x hx
    rcases List.mem_cons.1 hx with rfl | hx
    · exact low_ari ok.1
    · rcases List.mem_append.1 hx with hx | hx
      · exact nm ok.2.1 x hx
      · exact iha ok.2.2 x hx
  | bi s n a b iha ihb =>
    intro ok x hx
    rcases List.mem_cons.1 hx with rfl | hx
    · exact low_ari ok.1
    · rcases List.mem_append.1 hx with hx | hx
      · exact nm ok.2.1 x hx
      · rcases List.mem_append.1 hx with hx | hx
        · exact iha ok.2.2.1 x hx
        · exact ihb ok.2.2.2 x hx
  | tri s a b c iha ihb ihc =>
    intro ok x hx
    rcases List.mem_cons.1 hx with rfl | hx
    · exact low_ari ok.1
    · rcases List.mem_append.1 hx with hx | hx
      · exact iha ok.2.2.1 x hx
      · rcases List.mem_append.1 hx with hx | hx
        · exact ihb ok.2.2.2.1 x hx
        · exact ihc ok.2.2.2.2 x hx
theorem low_join {s : Nat} (hs : s < 128) : ∀ {ws : List Wd}, (∀ w ∈ ws, Low w) → Low (TL.joinL [s] ws) := by
  intro ws
  induction ws with
  | nil => intro _ c hc; rw [TL.joinL.eq_1] at hc; cases hc
  | cons a r ih =>
    intro h c hc
    have ha := h a (List.mem_cons_self ..)
    have hr := ih fun w hw => h w (List.mem_cons_of_mem _ hw)
    cases r with
    | nil => rw [TL.joinL.eq_2] at hc; exact ha c hc
    | cons b r =>
      rw [TL.joinL.eq_3] at hc
      rcases List.mem_append.1 hc with hc | hc
      · exact ha c hc
      · rcases List.mem_append.1 hc with hc | hc
        · rw [List.mem_singleton.1 hc]; exact hs
        · exact hr c hc
theorem low_text {ps : List Pt} {e : Tr} (ok : PtsOk ps) (or : RunOk ps e) : Low (textT (ps.map partT ++ [runT e])) := by
  refine low_join (by decide) fun t ht => ?_
  rcases List.mem_append.1 ht with ht | ht
  · obtain ⟨p, hp, rfl⟩ := List.mem_map.1 ht
    refine low_join (by decide) fun w hw => ?_
    unfold partWs at hw
    rcases List.mem_cons.1 hw with rfl | hw
    · unfold Low; decide
    · rcases List.mem_cons.1 hw with rfl | hw
      · exact low_free (ok.free p hp)
      · exact Tr.low (ok.good p hp).ok w hw
  · rw [List.mem_singleton.1 ht]
    refine low_join (by decide) fun w hw => ?_
    unfold runWs at hw
    rcases List.mem_cons.1 hw with rfl | hw
    · unfold Low; decide
    · exact Tr.low or.good.ok w hw
end Mi
namespace K5
open PySem PySem.Spec PyProof.Rows L2 Evl SX Mi Xr
/-- a text, and the names of the parts -/
def DT (text : Wd) (nms : List Wd) : PyData := .tuple [.str (S text), .tuple (nms.map fun n => .str (S n))]
theorem low_repr {x : Wd} (h : Low x) : (reprText (S x)).length ≤ 10 * x.length + 2 := by
  have := StrLaws.reprText_len (S x) fun c hc => Nat.lt_trans (h c (by simpa using hc)) (by decide)
  rwa [S_len] at this
theorem names_shown : ∀ {nms : List Wd}, (∀ n ∈ nms, Low n ∧ n.length ≤ 8) → ((PyData.shownAll (nms.map fun n => .str (S n))).map (·.length)).sum ≤ 82 * nms.length := by
  intro nms
  induction nms with
  | nil => intro _; exact Nat.le_refl _
  | cons n r ih =>
    intro h
    have h1 := low_repr (h n (List.mem_cons_self ..)).1
    have h2 := (h n (List.mem_cons_self ..)).2
    have h3 := ih fun x hx => h x (List.mem_cons_of_mem _ hx)
    rw [List.map_cons, PyData.shownAll_cons, List.map_cons, List.sum_cons, PyData.shown_str, List.length_cons]
    omega
theorem shownAll_len : ∀ (xs : List PyData), (PyData.shownAll xs).length = xs.length := by
  intro xs
  induction xs with
  | nil => rfl
  | cons x r ih => rw [PyData.shownAll_cons, List.length_cons, List.length_cons, ih]
theorem showable_names : ∀ (nms : List Wd), PyData.showableAll (nms.map fun n => PyData.str (S n)) = true := by
  intro nms
  induction nms with
  | nil => rfl
  | cons n r ih => rw [List.map_cons]; simp [PyData.showableAll, PyData.showable, ih]
theorem hasDict_names : ∀ (nms : List Wd), PyData.hasDictAll (nms.map fun n => PyData.str (S n)) = false := by
  intro nms
  induction nms with
  | nil => rfl
  | cons n r ih => rw [List.map_cons]; simp [PyData.hasDictAll, PyData.hasDict, ih]
theorem depth_names : ∀ (nms : List Wd), PyData.depthAll (nms.map fun n => PyData.str (S n)) ≤ 5 := by
  intro nms
  induction nms with
  | nil => decide
  | cons n r ih =>
    rw [List.map_cons]
    simp only [PyData.depthAll, PyData.depth] at ih ⊢
    omega
theorem shown_tup (xs : List PyData) : (PyData.tuple xs).shown = tupleText (PyData.shownAll xs) := by
  rw [PyData.shown_tuple]
  unfold tupleText
  rw [shownAll_len]
theorem showOk_txt {text : Wd} {nms : List Wd} (ht : Low text) (hl : text.length ≤ 9000) (hn : ∀ n ∈ nms, Low n ∧ n.length ≤ 8) (h4 : nms.length ≤ 4) : showOk (DT text nms) = true := by
  have l1 := low_repr ht
  have l2 := names_shown hn
  have a1 := tupleText_len_le (PyData.shownAll (nms.map fun n => .str (S n)))
  have a2 := tupleText_len_le (PyData.shownAll [PyData.str (S text), .tuple (nms.map fun n => .str (S n))])
  rw [shownAll_len, List.length_map] at a1
  rw [shownAll_len, PyData.shownAll_cons, PyData.shownAll_cons, PyData.shownAll_nil, PyData.shown_str] at a2
  have e1 : (PyData.tuple (nms.map fun n => PyData.str (S n))).shown = tupleText (PyData.shownAll (nms.map fun n => .str (S n))) := shown_tup _
  have e2 : (DT text nms).shown = tupleText (PyData.shownAll [PyData.str (S text), .tuple (nms.map fun n => .str (S n))]) := shown_tup _
  rw [e1] at a2
  simp only [List.map_cons, List.map_nil, List.sum_cons, List.sum_nil, List.length_cons, List.length_nil] at a2
  have e3 : (DT text nms).shown.length ≤ 100000 := by
    rw [e2, PyData.shownAll_cons, PyData.shownAll_cons, PyData.shownAll_nil, PyData.shown_str, e1]
    omega
  have dn := depth_names nms
  have s1 : (DT text nms).showable = true := by simp [DT, PyData.showable, PyData.showableAll, showable_names]
  have s2 : (DT text nms).hasDict = false := by simp [DT, PyData.hasDict, PyData.hasDictAll, hasDict_names]
  have s3 : (DT text nms).depth ≤ 50 := by
    simp only [DT, PyData.depth, PyData.depthAll] at dn ⊢
    omega
  unfold showOk
  rw [s1, s2, decide_eq_true s3, decide_eq_true e3]
  rfl
end K5
set_option Elab.async false
set_option linter.all false
set_option maxRecDepth 100000
set_option maxHeartbeats 1000000
namespace Mi
section
variable {ps : List Pt} {e : Tr} {M : List (List Wd)} {kd : Nat → Nat}
/-- nothing spoilt -/
theorem sp_start : SpAll ps e (ps.map partW ++ [runWs e]) (fun _ => 0) := by
  refine ⟨by simp, fun i p hp => ⟨partW p, ?_, .inl ⟨rfl, rfl⟩⟩, ⟨runWs e, ?_, .inl ⟨rfl, rfl⟩⟩⟩
  · have hi : i < ps.length := (List.getElem?_eq_some_iff.1 hp).1
    rw [List.getElem?_append_left (by simpa using hi), List.getElem?_map, hp]; rfl
  · rw [List.getElem?_append_right (by simp)]; simp
/-- the words ahead of line j's expression, and that -/
def lineOf (ps : List Pt) (e : Tr) (j : Nat) : List Wd × Tr := match ps[j]? with
  | some p => ([PART, p.1], p.2)
  | none => ([RUN], e)
theorem line_at {j : Nat} (hj : j ≤ ps.length) : (ps.map partW ++ [runWs e])[j]? = some ((lineOf ps e j).1 ++ (lineOf ps e j).2.words) := by
  unfold lineOf
  by_cases hi : j < ps.length
  · rw [List.getElem?_append_left (by simpa using hi), List.getElem?_map, List.getElem?_eq_getElem hi]; rfl
  · have : j = ps.length := by omega
    subst this
    rw [List.getElem?_append_right (by simp), List.getElem?_eq_none (Nat.le_refl _)]
    simp [runWs]
theorem line_hd (ok : PtsOk ps) (or : RunOk ps e) {j : Nat} : HdOk (lineOf ps e j).1 (lineOf ps e j).2 ∧ (lineOf ps e j).2.Ok := by
  unfold lineOf
  cases z : ps[j]? with
  | none => exact ⟨.inl rfl, or.good.ok⟩
  | some p =>
    have hp := List.mem_of_getElem? z
    exact ⟨.inr ⟨p.1, rfl, ok.free p hp, ok.fun_ p hp⟩, (ok.good p hp).ok⟩
/-- one more -/
theorem sp_set {j k : Nat} {W : List Wd} (hj : j ≤ ps.length) (sp : SpAll ps e M kd) (h : SpW (lineOf ps e j).1 (lineOf ps e j).2 k W) : SpAll ps e (M.set j W) (fun x => if x = j then k else kd x) := by
  have hl := sp.len
  refine ⟨by rw [List.length_set]; exact hl, fun i p hp => ?_, ?_⟩
  · have hi : i < ps.length := (List.getElem?_eq_some_iff.1 hp).1
    by_cases q : i = j
    · subst q
      refine ⟨W, by rw [List.getElem?_set_self (by omega)], ?_⟩
      unfold lineOf at h
      rw [hp] at h
      rw [if_pos rfl]
      exact h
    · rw [List.getElem?_set_ne (Ne.symm q)]
      obtain ⟨W', h1, h2⟩ := sp.part i p hp
      rw [if_neg q]
      exact ⟨W', h1, h2⟩
  · by_cases q : ps.length = j
    · subst q
      refine ⟨W, by rw [List.getElem?_set_self (by omega)], ?_⟩
      unfold lineOf at h
      rw [List.getElem?_eq_none (Nat.le_refl _)] at h
      rw [if_pos rfl]
      exact h
    · rw [List.getElem?_set_ne (Ne.symm q)]
      obtain ⟨W', h1, h2⟩ := sp.run
      rw [if_neg q]
      exact ⟨W', h1, h2⟩
/-- the number told -/
theorem sp_first (ok : PtsOk ps) (or : RunOk ps e) (bn : Bns ps e) {js : List Nat} (hs : js.Pairwise (· < ·)) (hne : js ≠ []) (hlt : ∀ j ∈ js, j ≤ ps.length) (sp : SpAll ps e M kd) (k0 : ∀ j, j ∉ js → kd j = 0) (k12 : ∀ j ∈ js, kd j = 1 ∨ kd j = 2) :
    ∃ j r, js.filter (fun x => kd x == 2) ++ js.filter (fun x => kd x == 1) = j :: r ∧ j ≤ ps.length ∧ readProg (textT (M.map (TL.joinL [32]))) = .error (j + 1) := by
  cases z : js.filter (fun x => kd x == 2) with
  | cons j r =>
    have hs2 := hs.sublist (List.filter_sublist (p := fun x => kd x == 2))
    rw [z] at hs2
    have hj : j ∈ js ∧ kd j = 2 := by
      have : j ∈ js.filter (fun x => kd x == 2) := by rw [z]; exact List.mem_cons_self ..
      simpa using List.mem_filter.1 this
    refine ⟨j, _, rfl, hlt j hj.1, sp_wrong ok or bn sp (hlt j hj.1) hj.2 fun i hi h2 => ?_⟩
    have him : i ∈ js := Classical.byContradiction fun q => by rw [k0 i q] at h2; cases h2
    have : i ∈ j :: r := by rw [← z]; exact List.mem_filter.2 ⟨him, by simp [h2]⟩
    rcases List.mem_cons.1 this with rfl | q
    · omega
    · have := (List.pairwise_cons.1 hs2).1 i q
      omega
  | nil =>
    have no2 : ∀ i, kd i ≠ 2 := fun i h2 => by
      have him : i ∈ js := Classical.byContradiction fun q => by rw [k0 i q] at h2; cases h2
      have : i ∈ js.filter (fun x => kd x == 2) := List.mem_filter.2 ⟨him, by simp [h2]⟩
      rw [z] at this; cases this
    cases y : js.filter (fun x => kd x == 1) with
    | nil =>
      exfalso
      obtain ⟨j, hj⟩ := List.exists_mem_of_ne_nil js hne
      rcases k12 j hj with h | h
      · have : j ∈ js.filter (fun x => kd x == 1) := List.mem_filter.2 ⟨hj, by simp [h]⟩
        rw [y] at this; cases this
      · exact no2 j h
    | cons j r =>
      have hs2 := hs.sublist (List.filter_sublist (p := fun x => kd x == 1))
      rw [y] at hs2
      have hj : j ∈ js ∧ kd j = 1 := by
        have : j ∈ js.filter (fun x => kd x == 1) := by rw [y]; exact List.mem_cons_self ..
        simpa using List.mem_filter.1 this
      refine ⟨j, r, rfl, hlt j hj.1, sp_late ok or bn sp (hlt j hj.1) hj.2 (fun i hi => ?_) fun i _ => no2 i⟩
      apply Classical.byContradiction
      intro h0
      have him : i ∈ js := Classical.byContradiction fun q => h0 (k0 i q)
      have h1 : kd i = 1 := (k12 i him).resolve_right (no2 i)
      have : i ∈ j :: r := by rw [← y]; exact List.mem_filter.2 ⟨him, by simp [h1]⟩
      rcases List.mem_cons.1 this with rfl | q
      · omega
      · have := (List.pairwise_cons.1 hs2).1 i q
        omega
/-- how long a text of such lines is -/
theorem lines_len {ls : List (List Wd)} (h5 : ls.length ≤ 5) (h : ∀ c ∈ ls, c.length ≤ 120 ∧ ∀ w ∈ c, w.length ≤ 9) : (textT (ls.map (TL.joinL [32]))).length ≤ 9000 := by
  have lt : ∀ t ∈ ls.map (TL.joinL [32]), t.length ≤ 1200 := fun t ht => by
    obtain ⟨c, hc, rfl⟩ := List.mem_map.1 ht
    have h1 := joinL_len (s := 32) (h c hc).2
    have h2 := (h c hc).1
    omega
  have h1 := joinL_len (s := 10) lt
  rw [List.length_map] at h1
  have h3 : ls.length * (1200 + 1) ≤ 5 * 1201 := Nat.mul_le_mul_right _ h5
  unfold textT; omega
theorem lines_spl {ls : List (List Wd)} (h5 : ls.length ≤ 5) (h : ∀ c ∈ ls, 10 ∉ TL.joinL [32] c) : (TL.spl [10] 0 [] (textT (ls.map (TL.joinL [32])))).length ≤ 901 := by
  cases ls with
  | nil => unfold textT; rw [List.map_nil, TL.joinL.eq_1]; decide
  | cons a r =>
    unfold textT
    rw [TL.spl_join (by simp) (fun p hp => by obtain ⟨c, hc, rfl⟩ := List.mem_map.1 hp; exact h c hc)]
    simp at h5 ⊢; omega
end
/-- sorted numbers below n -/
theorem nats_of {ns : List Int} {n : Nat} (h : ∀ x ∈ ns, ∃ j : Nat, x = j ∧ j < n) : ∃ js : List Nat, ns = js.map (fun j : Nat => (j : Int)) ∧ ∀ j ∈ js, j < n := by
  induction ns with
  | nil => exact ⟨[], rfl, fun j hj => by cases hj⟩
  | cons x r ih =>
    obtain ⟨j, hj, hn⟩ := h x (List.mem_cons_self ..)
    obtain ⟨js, h1, h2⟩ := ih fun y hy => h y (List.mem_cons_of_mem _ hy)
    refine ⟨j :: js, by rw [hj, h1]; rfl, fun i hi => ?_⟩
    rcases List.mem_cons.1 hi with rfl | hi
    · exact hn
    · exact h2 i hi
theorem strict_of {js : List Nat} (h1 : (js.map (fun j : Nat => (j : Int))).Pairwise (· ≤ ·)) (h2 : (js.map (fun j : Nat => (j : Int))).Nodup) : js.Pairwise (· < ·) := by
  rw [List.pairwise_map] at h1
  have h3 : js.Pairwise (fun a b : Nat => (a : Int) ≠ b) := by
    have := h2
    unfold List.Nodup at this
    rw [List.pairwise_map] at this
    exact this
  exact (h1.and h3).imp fun ⟨a, b⟩ => by omega
end Mi
set_option Elab.async false
set_option linter.all false
set_option maxRecDepth 100000
set_option maxHeartbeats 4000000
namespace K5
open PySem PySem.Spec PyProof.Rows L2 Evl Xl SX Mi Xr
/-- what isinstance asks of instances of C -/
structure IsC (K : PySem.W.Frag) (C : Addr) : Prop where
  ha : PySem.W.findIn K (.ref C) "__class__" = some (some (.builtin "object.__class__"))
  hn : PySem.W.specialIn K (.builtin "object.__class__") "__get__" = some (some (.builtin "getset_descriptor.__get__"))
  ht : PySem.W.takesIn K (.builtin "object.__class__") = some true
  hm : PySem.W.mroIn K C (.type "object") = some true
theorem kit_self {K : PySem.W.Frag} {C : Addr} : PySem.W.kitOne K (.ref C) (.ref C) = some true := by
  unfold PySem.W.kitOne
  exact if_pos (by simp)
theorem passX {X : Cx} : Passes (L2.CX X.prog X.w) X C8.E0 := fun _ _ _ _ _ _ _ h => by
  obtain ⟨_, _, _, _, _, _, _, _, _, _, _, _, z⟩ := h
  exact z.elim
/-- beside an instance of C: another one, or what is none -/
structure NotC (K : PySem.W.Frag) (C : Addr) : Prop where
  str : PySem.W.notFirst K C (.type "str") = true
  int : PySem.W.notFirst K C (.type "int") = true
  non : PySem.W.notFirst K C (.type "NoneType") = true
  tup : PySem.W.notFirst K C (.type "tuple") = true
  kstr : PySem.W.kitOne K (.type "str") (.ref C) = some false
  kint : PySem.W.kitOne K (.type "int") (.ref C) = some false
  knon : PySem.W.kitOne K (.type "NoneType") (.ref C) = some false
  ktup : PySem.W.kitOne K (.type "tuple") (.ref C) = some false
/-- C(..) == y, by the text -/
def spEqX (K : PySem.W.Frag) (CP : Addr) : Sp := fun vs H Q _ => ∃ (a dx : Addr) (fs : List (Str × V)) (s : Str) (y : V), vs = [.ref a, y] ∧ H a = some (.ins CP dx fs) ∧ fs.lookup ("_text" : Str) = some (.str s) ∧
  ((∃ (b dy : Addr) (gs : List (Str × V)) (t : Str), y = .ref b ∧ H b = some (.ins CP dy gs) ∧ gs.lookup ("_text" : Str) = some (.str t) ∧ ∀ H', Ex H H' → Q (.bl (decide (s = t))) H') ∨
   (∃ t : Value, (∀ H', Ex H H' → TyX K H' y t) ∧ PySem.W.kitOne K t (.ref CP) = some false ∧ ∀ H', Ex H H' → Q (.bl false) H'))
abbrev sEqX : Stmt := inClass (top 35) 5
abbrev sTxG : Stmt := inClass (top 35) 1
abbrev sPtG : Stmt := inClass (top 35) 2
theorem scEqX : FnScope ["self", "other"] ["self", "other"] (C8.fnScope sEqX) := C8.fnScope_by (by decide +kernel)
theorem scTxG : FnScope ["self"] ["self"] (C8.fnScope sTxG) := C8.fnScope_by (by decide +kernel)
theorem scPtG : FnScope ["self"] ["self"] (C8.fnScope sPtG) := C8.fnScope_by (by decide +kernel)
section
variable {P : Program} {w : World} {K : PySem.W.Frag} {mg : Str → Option Value} {base : Heap} {f : Addr} {fd : FuncData}
theorem ok_eqX {CP : Addr} (F : C8.Fun K "__eq__" "Program.__eq__" sEqX f fd) (T : Txt K w mg) (isi_ : mg "isinstance" = none) (G : ProgC K mg CP) (IS : IsC K CP) : FnOk P w K mg base C8.CX0 1 f fd ["self", "other"] (spEqX K CP) := by
  refine C8.fn0 F scEqX (fun vs H Q E h => by obtain ⟨a, dx, fs, s, y, rfl, _⟩ := h; rfl) (fun cdv A outer s H vs Q E hr h => ?_)
  obtain ⟨a, dx, fs, s, y, rfl, ha, hs, k⟩ := h
  refine ⟨_, pss_one (ps_ret (pe_and (pe_callB call_isi (by rfl) isi_ (by decide +kernel) (pa_cons (pv 1) (pa_cons (pe_glob (v := .ref CP) (by rfl) G.mgC rfl) pa_nil))) (pe_one (pe_cmpR op_eq (pe_fld (pv 0) rfl) (pe_fld (pv 1) rfl) (nomark _))))), ?_⟩
  rcases k with ⟨b, dy, gs, t, rfl, hb, ht, k⟩ | ⟨t, hty, hk, k⟩
  · refine s_ret (v := .bl (decide (s = t))) (ev_is (ev_andV (a := true) (b := decide (V.str s = V.str t)) (ev_cb (vs := [.ref b, .ref CP]) (ea_cons (ev_var rfl) (ea_cons ev_c ea_nil)) fun H1 e1 Q q => ⟨.ref b, .ref CP, .ref CP, .ref CP, true, rfl, .own CP, .base (.ins (e1 _ _ hb) G.cl IS.ha IS.hn IS.ht IS.hm), kit_self, q H1 (Ex.refl H1)⟩) fun _ => ev_op (ev_fld (ev_var rfl) ha G.cl G.n1 hs) (ev_fld (ev_var rfl) hb G.cl G.n1 ht) (rv_eq rfl)) ?_) k
    congr 1
    exact decide_eq_decide.mpr ⟨fun z => V.str.inj z, fun z => by rw [z]⟩
  · exact s_ret (v := .bl false) (ev_is (ev_andV (a := false) (b := false) (ev_cb (vs := [y, .ref CP]) (ea_cons (ev_var rfl) (ea_cons ev_c ea_nil)) fun H1 e1 Q q => ⟨y, .ref CP, t, .ref CP, false, rfl, .own CP, hty H1 e1, hk, q H1 (Ex.refl H1)⟩) fun z => (by cases z)) rfl) k
theorem ok_textG {CP : Addr} (F : C8.Fun K "text" "Program.text" sTxG f fd) (G : ProgC K mg CP) : FnOk P w K mg base C8.CX0 1 f fd ["self"] (getSp CP "_text") := by
  obtain ⟨oc, od, dV, kV, doc, pm, an, cdv, ct, osl, rfl, lk, hcd⟩ := F.ex
  exact fn_getter lk hcd scTxG rfl rfl G.cl G.n1
theorem ok_partsG {CP : Addr} (F : C8.Fun K "parts" "Program.parts" sPtG f fd) (G : ProgC K mg CP) : FnOk P w K mg base C8.CX0 1 f fd ["self"] (getSp CP "_parts") := by
  obtain ⟨oc, od, dV, kV, doc, pm, an, cdv, ct, osl, rfl, lk, hcd⟩ := F.ex
  exact fn_getter lk hcd scPtG rfl rfl G.cl G.n3
end
theorem tabs_keep {Pt : Addr} {q : Str} {p : Addr} {xs : List V} {H H' : Hp} (t : LamX.Tabs [(Pt, q)] H) (hp : H p = some (.lst xs)) (e : Keep (fun c => c = p) H H') : LamX.Tabs [(Pt, q)] H' := fun y hy => by
  obtain ⟨ps, h1, h2, h3⟩ := t y hy
  refine ⟨ps, e _ _ (fun z => by rw [z, hp] at h1; cases h1) h1, h2, fun pos cv hc => ?_⟩
  obtain ⟨c, e1, e2⟩ := h3 pos cv hc
  exact ⟨c, e1, e _ _ (fun z => by rw [z, hp] at e2; cases e2) e2⟩
section
variable {K : PySem.W.Frag} {σ : L2.St} {H : Hp} {te ta tb tl : TE} {d : PyData} {D : Ends} {tz : TS}
theorem q_asgR {te : TE} {i : Nat} (h : te σ H fun v H1 => tz D (σ.set i (some v)) H1) : tSeq (tAsg te (gName i)) tz D σ H := h
theorem evd_prop {C a dx : Addr} {fs : List (Str × V)} {f : Str} {v : V} {E : XK} (h : Ev te σ H (.ref a)) (ha : H a = some (.ins C dx fs)) (hl : fs.lookup f = some v) (hd : Dp K H v d) : EvD K (tProp C (getSp C f) [] E te) σ H d := fun H1 e Q q =>
  h H1 e _ fun H2 e2 => ⟨a, dx, fs, rfl, (e.trans e2) _ _ ha, a, dx, fs, v, rfl, (e.trans e2) _ _ ha, hl, q v H2 e2 (dp_lt (LT.of (e.trans e2)) d v hd)⟩
theorem ev_propX {C a dx : Addr} {fs : List (Str × V)} {f : Str} {v : V} {E : XK} (h : Ev te σ H (.ref a)) (ha : H a = some (.ins C dx fs)) (hl : fs.lookup f = some v) : Ev (tProp C (getSp C f) [] E te) σ H v := fun H1 e Q q =>
  h H1 e _ fun H2 e2 => ⟨a, dx, fs, rfl, (e.trans e2) _ _ ha, a, dx, fs, v, rfl, (e.trans e2) _ _ ha, hl, q H2 e2⟩
theorem dps_names {H : Hp} : ∀ (nms : List Wd), DpAll K H (nms.map fun n => V.str (S n)) (nms.map fun n => PyData.str (S n))
  | [] => .nil
  | n :: r => .cons (.str _) (dps_names r)
end
end K5
set_option Elab.async false
set_option linter.all false
set_option maxRecDepth 100000
set_option maxHeartbeats 4000000
namespace K5
open PySem PySem.Spec PyProof.Rows L2 Evl Xl SX Mi Xr
theorem chL_le {n : Nat} : ∀ {c : List Wd}, (∀ w ∈ c, w.length ≤ n) → chL c ≤ c.length * n := by
  intro c
  induction c with
  | nil => intro _; exact Nat.zero_le _
  | cons a r ih =>
    intro h
    have h1 := h a (List.mem_cons_self ..)
    have h2 := ih fun w hw => h w (List.mem_cons_of_mem _ hw)
    have e : chL (a :: r) = a.length + chL r := rfl
    rw [e, List.length_cons, Nat.succ_mul]
    omega
/-- lines that are not too long -/
def Short (cs : List (List Wd)) : Prop := cs.length ≤ 5 ∧ ∀ c ∈ cs, c.length ≤ 120 ∧ ∀ w ∈ c, w.length ≤ 9
theorem Short.ch {cs : List (List Wd)} (h : Short cs) : (∀ c ∈ cs, chL c + c.length ≤ 10000) ∧ chL (cs.map (TL.joinL [32])) ≤ 1000000 := by
  constructor
  · intro c hc
    obtain ⟨h1, h2⟩ := h.2 c hc
    have := chL_le h2
    omega
  · have h1 : ∀ t ∈ cs.map (TL.joinL [32]), t.length ≤ 1200 := fun t ht => by
      obtain ⟨c, hc, rfl⟩ := List.mem_map.1 ht
      obtain ⟨h1, h2⟩ := h.2 c hc
      have := joinL_len (s := 32) h2
      omega
    have h2 := chL_le h1
    rw [List.length_map] at h2
    have := h.1
    have h3 : cs.length * 1200 ≤ 5 * 1200 := Nat.mul_le_mul_right _ this
    omega
section
variable {K : PySem.W.Frag} {σ : L2.St} {H : Hp} {te tl ta tb : TE} {cs : List (List Wd)} {rs : List Addr} {l : Addr}
theorem ev_ptext (h : Ev te σ H (.ref l)) (hl : H l = some (.lst (rs.map V.ref))) (at_ : LsAt H rs cs) (hs : Short cs) : Ev (tCall spPText [] C8.E0 (tCons te tNil)) σ H (.str (S (textT (cs.map (TL.joinL [32]))))) := fun H1 e1 Q q =>
  h H1 e1 _ fun H2 e2 => ⟨l, rs, cs, rfl, (e1.trans e2) _ _ hl, at_.ex (e1.trans e2), by have := hs.1; omega, hs.ch.1, hs.ch.2, fun H' e' => q H' (e2.trans e')⟩
theorem ev_ptextL (h : EvL te σ H (rs.map V.ref)) (at_ : LsAt H rs cs) (hs : Short cs) : Ev (tCall spPText [] C8.E0 (tCons te tNil)) σ H (.str (S (textT (cs.map (TL.joinL [32]))))) := fun H1 e1 Q q =>
  h H1 e1 _ fun p H2 hp e2 hx => ⟨p, rs, cs, rfl, hx, at_.ex (e1.trans e2), by have := hs.1; omega, hs.ch.1, hs.ch.2, fun H' e' => q H' (e2.trans e')⟩
theorem el_names {ps : List Pt} {j : Nat} {vs : List Nat} (h : EvL tl σ H (rs.map V.ref)) (at_ : LsAt H rs (ps.map partW)) (hn : ps.length ≤ 100)
    (sj : ∀ x, ((wipe σ vs).set j (some x))[j]? = some (some x)) (sw : ∀ x, wipe ((wipe σ vs).set j (some x)) vs = wipe σ vs) :
    EvL (tLc (iList K tl) (gName j) tYes (tOp (rIxL K) (tVar j) (tC (.int 1))) vs) σ H ((nmsP ps).map fun n => V.str (S n)) := fun H1 e1 Q q => h H1 e1 _ fun l H1' hl0 e1' hl => by
  refine ⟨l, rfl, ⟨_, sq_of hl⟩, fun D hD => ?_⟩
  have ln : rs.length = ps.length := by have := at_.len; rwa [List.length_map] at this
  have at1 := (at_.ex e1).ex e1'
  refine comp_walk (body := fun x H' Nx => gName j x (wipe σ vs) H' fun σ2 H2 => wipe σ2 vs = wipe σ vs ∧ tYes σ2 H2 fun b H3 => if b = true then tOp (rIxL K) (tVar j) (tC (.int 1)) σ2 H3 (fun y H4 => ∃ acc, H4 D = some (.lst acc) ∧ acc.length < sizeLine ∧ Nx (upd H4 D (.lst (acc ++ [y])))) else Nx H3)
    (walk_list (K := K) (a := l) (xs := rs.map V.ref)) (fun i G => Ex H1' G ∧ G D = some (.lst (((nmsP ps).take i).map fun n => V.str (S n))))
    ⟨ex_put hD (Ex.refl H1'), upd_same⟩ (fun i G _ h => sq_of (h.1 _ _ hl)) (fun i G x G' hi hpv hy => ?_) (fun G hpv => ?_)
  · obtain ⟨rfl, hx⟩ := hy
    obtain ⟨eG, hGD⟩ := hpv
    obtain ⟨r, hr, rfl⟩ : ∃ r, rs[i]? = some r ∧ x = .ref r := by
      rw [List.getElem?_map] at hx
      cases z : rs[i]? with
      | none => rw [z] at hx; cases hx
      | some r => rw [z] at hx; exact ⟨r, rfl, (Option.some.inj hx).symm⟩
    obtain ⟨w0, hw0, hr0⟩ := at1.at_ hr
    rw [List.getElem?_map] at hw0
    cases z : ps[i]? with
    | none => rw [z] at hw0; cases hw0
    | some pt =>
      rw [z] at hw0
      obtain rfl : partW pt = w0 := Option.some.inj hw0
      have hnm : (nmsP ps)[i]? = some pt.1 := by unfold nmsP; rw [List.getElem?_map, z]; rfl
      have htk : (nmsP ps).take (i + 1) = (nmsP ps).take i ++ [pt.1] := by rw [List.take_add_one, hnm]; rfl
      rw [List.length_map, ln] at hi
      have hx1 : (wV (partW pt))[1]? = some (V.str (S pt.1)) := rfl
      refine ⟨sw _, (ev_op (ev_var (sj _)) ev_c (rv_ixL (K := K) (sq_of (eG _ _ hr0)) (atI_nat (j := 1) hx1)) : Ev _ _ G' _) G' (Ex.refl G') _ fun H4 e4 => ⟨_, e4 _ _ hGD, ?_, ex_put hD (eG.trans e4), ?_⟩⟩
      · rw [sizeLine_eq]; simp; omega
      · rw [upd_same, htk]; simp
  · obtain ⟨eG, hGD⟩ := hpv
    have ln2 : (nmsP ps).length = ps.length := by unfold nmsP; rw [List.length_map]
    rw [List.length_map, ln, ← ln2, List.take_length] at hGD
    exact q D G (fresh_back e1' hD) (e1'.trans eG) hGD
theorem et_maxgt {ns : List Int} {m0 : Int} (h : EvL te σ H (ns.map V.int)) (hn : 0 < ns.length) (hb : ∀ x ∈ ns, x ≤ m0) : EvT (tTest (tOp (rI0 fun i j => V.bl (decide (i > j))) (tCB (rMax K) (tCons te tNil)) (tC (.int m0)))) σ H false := fun H1 e1 Q q =>
  h H1 e1 _ fun p H2 hp e2 hx => ⟨p, ns, rfl, sq_of hx, hn, fun m hm _ => ⟨_, _, rfl, rfl, _, rfl, by
    have : decide (m > m0) = false := decide_eq_false (by have := hb m hm; omega)
    rw [this]; exact q H2 e2⟩⟩
end
theorem LsAt.set_ {H : Hp} {q : Addr} {W : List Wd} (hq : H q = some (.lst (wV W))) (hW : W ≠ []) : ∀ {rs : List Addr} {M : List (List Wd)} {j : Nat}, LsAt H rs M → LsAt H (rs.set j q) (M.set j W) := by
  intro rs
  induction rs with
  | nil => intro M j h; cases M with
    | nil => exact h
    | cons a b => exact h.elim
  | cons r rs ih => intro M j h; cases M with
    | nil => exact h.elim
    | cons a b => cases j with
      | zero => exact ⟨⟨hq, hW⟩, h.2⟩
      | succ j => exact ⟨h.1, ih h.2⟩
theorem LsAt.extN {H H' : Hp} {rs : List Addr} {cs : List (List Wd)} (h : LsAt H rs cs) (e : LamX.ExtN H H') : LsAt H' rs cs := h.mono fun r l hr _ => e _ _ hr fun _ z => by cases z
theorem LsAt.take_ {H : Hp} : ∀ {rs : List Addr} {M : List (List Wd)} {j : Nat}, LsAt H rs M → LsAt H (rs.take j) (M.take j) := by
  intro rs
  induction rs with
  | nil => intro M j h; cases M with
    | nil => rw [List.take_nil, List.take_nil]; trivial
    | cons a b => exact h.elim
  | cons r rs ih => intro M j h; cases M with
    | nil => exact h.elim
    | cons a b => cases j with
      | zero => trivial
      | succ j => exact ⟨h.1, ih h.2⟩
theorem short_start {ps : List Pt} {e : Tr} (ok : PtsOk ps) (or : RunOk ps e) (h4 : ps.length ≤ 4) (hl : ∀ c ∈ ps.map partW ++ [runWs e], c.length ≤ 100) : Short (ps.map partW ++ [runWs e]) := by
  refine ⟨by simp; omega, fun c hc => ⟨by have := hl c hc; omega, fun w hw => ?_⟩⟩
  rcases List.mem_append.1 hc with hc | hc
  · obtain ⟨p, hp, rfl⟩ := List.mem_map.1 hc
    unfold partW partWs at hw
    rcases List.mem_cons.1 hw with rfl | hw
    · decide
    · rcases List.mem_cons.1 hw with rfl | hw
      · have := free_len (ok.free p hp); omega
      · have := tr_short (ok.good p hp).ok w hw; omega
  · rw [List.mem_singleton.1 hc] at hw
    unfold runWs at hw
    rcases List.mem_cons.1 hw with rfl | hw
    · decide
    · have := tr_short or.good.ok w hw; omega
theorem Short.set_ {cs : List (List Wd)} {j : Nat} {W : List Wd} (h : Short cs) (h1 : W.length ≤ 120) (h2 : ∀ w ∈ W, w.length ≤ 9) : Short (cs.set j W) := by
  refine ⟨by rw [List.length_set]; exact h.1, fun c hc => ?_⟩
  rcases List.mem_or_eq_of_mem_set hc with hc | rfl
  · exact h.2 c hc
  · exact ⟨h1, h2⟩
theorem Short.take_ {cs : List (List Wd)} {j : Nat} (h : Short cs) : Short (cs.take j) := ⟨by rw [List.length_take]; have := h.1; omega, fun c hc => h.2 c (List.mem_of_mem_take hc)⟩
end K5
set_option Elab.async false
set_option linter.all false
set_option maxRecDepth 100000
set_option maxHeartbeats 4000000
namespace K5
open PySem PySem.Spec PyProof.Rows L2 Evl Xl SX Mi Xr
theorem short_of {ps : List Pt} {e : Tr} (ok : PtsOk ps) (or : RunOk ps e) (h4 : ps.length ≤ 4) : Short (ps.map partW ++ [runWs e]) := by
  refine ⟨by simp; omega, fun c hc => ?_⟩
  rcases List.mem_append.1 hc with hc | hc
  · obtain ⟨p, hp, rfl⟩ := List.mem_map.1 hc
    refine ⟨ok.len p hp, fun w hw => ?_⟩
    unfold partW partWs at hw
    rcases List.mem_cons.1 hw with rfl | hw
    · decide
    · rcases List.mem_cons.1 hw with rfl | hw
      · have := free_len (ok.free p hp); omega
      · have := tr_short (ok.good p hp).ok w hw; omega
  · rw [List.mem_singleton.1 hc]
    refine ⟨or.len, fun w hw => ?_⟩
    unfold runWs at hw
    rcases List.mem_cons.1 hw with rfl | hw
    · decide
    · have := tr_short or.good.ok w hw; omega
/-- a text that may be read -/
def Fit (t : Wd) : Prop := t.length ≤ 6100 ∧ (TL.spl [10] 0 [] t).length ≤ 901
theorem fit_of {cs : List (List Wd)} (h : Short cs) (pl : ∀ c ∈ cs, 10 ∉ TL.joinL [32] c) : Fit (textT (cs.map (TL.joinL [32]))) := by
  refine ⟨?_, lines_spl h.1 pl⟩
  have lt : ∀ t ∈ cs.map (TL.joinL [32]), t.length ≤ 1200 := fun t ht => by
    obtain ⟨c, hc, rfl⟩ := List.mem_map.1 ht
    have h1 := joinL_len (s := 32) (h.2 c hc).2
    have h2 := (h.2 c hc).1
    omega
  have h1 := joinL_len (s := 10) lt
  rw [List.length_map] at h1
  have h3 : cs.length * (1200 + 1) ≤ 5 * 1201 := Nat.mul_le_mul_right _ h.1
  unfold textT; omega
theorem lines_map {ps : List Pt} {e : Tr} : (ps.map partW ++ [runWs e]).map (TL.joinL [32]) = ps.map partT ++ [runT e] := by
  rw [List.map_append, parts_lines]; rfl
theorem fit_drawn {ps : List Pt} {e : Tr} (ok : PtsOk ps) (or : RunOk ps e) (h4 : ps.length ≤ 4) : Fit (textT (ps.map partT ++ [runT e])) := by
  rw [← lines_map]
  refine fit_of (short_of ok or h4) fun c hc => ?_
  rcases List.mem_append.1 hc with hc | hc
  · obtain ⟨p, hp, rfl⟩ := List.mem_map.1 hc
    exact partT_plain ok _ (List.mem_map_of_mem hp)
  · rw [List.mem_singleton.1 hc]; exact runT_plain or
section
variable {K : PySem.W.Frag} {σ : L2.St} {H : Hp} {CB CP CL C : Addr}
/-- Program(te) for a text that is read -/
theorem r_prog {text : Wd} {ls : List Ln} {ta : TA} {Q : VK} (h : EvA ta σ H [.str (S text)]) (ft : Fit text) (rd : readProg text = .ok ls)
    (k : ∀ (p dx : Addr) (H' : Hp), H p = none → Ex H H' → ProgAt CP CL C H' p dx text ls → Q (.ref p) H') : tMake CP (spPrX K CB CP CL C) [] C8.E0 ta σ H Q :=
  r_make (vs := [.str (S text)]) h fun H5 e5 p dx hp hdx hne => ⟨p, dx, .str (S text), rfl, upd_same, .inr ⟨text, rfl, ⟨by have := ft.1; omega, ft.2⟩, fun e he => (by rw [rd] at he; cases he), fun ls' hls H6 K6 hP => by
    rw [rd] at hls
    cases hls
    refine ⟨rfl, k p dx H6 (fresh_back e5 hp) (fun c o hc => ?_) hP⟩
    have hc5 := e5 _ _ hc
    exact K6 c o (fun z => by rw [z, hp] at hc5; cases hc5) (ex_put hp (ex_put hdx (Ex.refl H5)) c o hc5)⟩⟩
theorem prog_ins {H : Hp} {p dx : Addr} {text : Wd} {ls : List Ln} (h : ProgAt CP CL C H p dx text ls) : ∃ dl tp dn tl tb, H p = some (.ins CP dx (prF text dl tp dn tl tb)) ∧ H tp = some (.tup ((ls.dropLast.map (·.name)).map fun x => .str (S x))) := by
  obtain ⟨_, dl, tp, dn, tl, tb, _, _, h1, _, _, h4, _⟩ := h
  exact ⟨dl, tp, dn, tl, tb, h1, h4⟩
/-- Program(text=program.text) != program -/
theorem et_neP {text : Wd} {ls : List Ln} {pr dx dl tp dn tl tb : Addr} {i : Nat} (h3 : σ[i]? = some (some (.ref pr))) (hpr : H pr = some (.ins CP dx (prF text dl tp dn tl tb))) (ft : Fit text) (rd : readProg text = .ok ls) :
    EvT (tTest (tOp (Xo.rOwn CP (spEqX K CP) C8.E0 fun k => !k) (tMakeK CP 0 1 (spPrX K CB CP CL C) (fun vs zs => vs ++ zs) C8.E0 tNil (tCons (tProp CP (getSp CP "_text") [] C8.E0 (tVar i)) tNil)) (tVar i))) σ H false := fun H1 e1 Q q => by
  refine (ev_propX (ev_var h3) hpr rfl : Ev _ σ H (.str (S text))) H1 e1 _ fun H2 e2 => ?_
  refine ⟨rfl, rfl, fun p dp hp hdp hne => ?_⟩
  refine ⟨p, dp, .str (S text), rfl, upd_same, .inr ⟨text, rfl, ⟨by have := ft.1; omega, ft.2⟩, fun e he => (by rw [rd] at he; cases he), fun ls' hls H6 K6 hP => ?_⟩⟩
  rw [rd] at hls
  cases hls
  have e26 : Ex H2 H6 := fun c o hc => K6 c o (fun z => by rw [z, hp] at hc; cases hc) (ex_put hp (ex_put hdp (Ex.refl H2)) c o hc)
  obtain ⟨dl', tp', dn', tl', tb', hi, _⟩ := prog_ins hP
  have hpr6 := e26 _ _ (e2 _ _ (e1 _ _ hpr))
  refine ⟨rfl, _, h3, p, pr, dp, dx, _, _, rfl, rfl, hi, hpr6, p, dp, _, S text, .ref pr, rfl, hi, rfl, .inl ⟨pr, dx, _, S text, rfl, hpr6, rfl, fun H7 e7 => ⟨true, by simp, _, rfl, q H7 ((e2.trans e26).trans e7)⟩⟩⟩
/-- any([program == value for value in ..]) -/
theorem et_anyP {text T1 T2 : Wd} {ls : List Ln} {pr dx dl tp dn tl tb : Addr} {y1 z1 y2 z2 : Str} (NC : NotC K CP) (h2 : σ[2]? = some (some (.str (S text)))) (h3 : σ[3]? = some (some (.ref pr))) (sj : ∀ v : V, ((wipe σ [12]).set 12 (some v))[12]? = some (some v)) (sj3 : ∀ v : V, ((wipe σ [12]).set 12 (some v))[3]? = some (some (.ref pr))) (sw : ∀ v : V, wipe ((wipe σ [12]).set 12 (some v)) [12] = wipe σ [12])
    (hpr : H pr = some (.ins CP dx (prF text dl tp dn tl tb))) (hz1 : z1.length = 12) (hz2 : z2.length = 11) (r1 : Txt.replace (S text) y1 z1 = S T1) (r2 : Xu.rep1 (S T1) y2 z2 = S T2) (l0 : text.length ≤ 9000) (l1 : T1.length ≤ 9000) (ft : Fit T2) (rd : readProg T2 = .ok ls) (ne : text ≠ T2) :
    EvT (tB (tCB (rAny K) (tCons (tLc (iTup K (tTup (tCons (tVar 2) (tCons (tC .non) (tCons (tC (.int 5)) (tCons (tTup (tCons (tVar 2) tNil)) (tCons (tMake CP (spPrX K CB CP CL C) [] C8.E0 (tCons (Xu.tRp1 y2 z2 (Xu.tRp y1 z1 (tVar 2))) tNil)) tNil)))))))
      (gName 12) tYes (tOp (Xo.rOwnX K CP (spEqX K CP) C8.E0) (tVar 3) (tVar 12)) [12]) tNil))) σ H false := by
  refine et_B fun H1 e1 Q q => ?_
  refine ⟨_, h2, ?_⟩
  refine r_c (v := .non) (r_c (v := .int 5) ?_)
  refine ⟨_, h2, (by rw [sizeLine_eq]; show 1 ≤ 16777216; decide), fun t ht => ?_⟩
  have e2 : Ex H1 (upd H1 t (.tup [.str (S text)])) := Ex.new ht
  have ht2 : (upd H1 t (.tup [.str (S text)])) t = some (.tup [.str (S text)]) := upd_same
  generalize upd H1 t (.tup [.str (S text)]) = H2 at e2 ht2 ⊢
  have ev1 : EvA (tCons (Xu.tRp1 y2 z2 (Xu.tRp y1 z1 (tVar 2))) tNil) σ H2 [.str (S T2)] := fun H3 e3 Q' q' => by
    refine ⟨_, h2, S text, rfl, ?_, S T1, by rw [r1], ?_, ?_, ?_⟩
    · rw [hz1, S_len]; omega
    · rw [hz2, S_len]; omega
    · rw [r2, S_len]; have := ft.1; omega
    · rw [r2]; exact q' H3 (Ex.refl H3)
  refine r_prog ev1 ft rd fun x dy H3 hx e3 hP => ?_
  obtain ⟨dl', tp', dn', tl', tb', hi, _⟩ := prog_ins hP
  refine ⟨(by rw [sizeLine_eq]; show 5 ≤ 16777216; decide), fun a ha => ?_⟩
  have e13 := e2.trans e3
  have hpr3 := e13 _ _ (e1 _ _ hpr)
  have ht3 := e3 _ _ ht2
  have e4 : Ex H3 (upd H3 a (.tup [.str (S text), .non, .int 5, .ref t, .ref x])) := Ex.new ha
  have ha4 : (upd H3 a (.tup [.str (S text), .non, .int 5, .ref t, .ref x])) a = some (.tup [.str (S text), .non, .int 5, .ref t, .ref x]) := upd_same
  generalize upd H3 a (.tup [.str (S text), .non, .int 5, .ref t, .ref x]) = H4 at e4 ha4 ⊢
  have hpr4 := e4 _ _ hpr3
  have ht4 := e4 _ _ ht3
  have hi4 := e4 _ _ hi
  refine ⟨a, rfl, ⟨_, st_of ha4⟩, fun D hD => ?_⟩
  refine comp_walk (body := fun x H' Nx => gName 12 x (wipe σ [12]) H' fun σ2 H2 => wipe σ2 [12] = wipe σ [12] ∧ tYes σ2 H2 fun b H3 => if b = true then tOp (Xo.rOwnX K CP (spEqX K CP) C8.E0) (tVar 3) (tVar 12) σ2 H3 (fun y H4 => ∃ acc, H4 D = some (.lst acc) ∧ acc.length < sizeLine ∧ Nx (upd H4 D (.lst (acc ++ [y])))) else Nx H3)
    (walk_tup (K := K) (a := a) (xs := [.str (S text), .non, .int 5, .ref t, .ref x])) (fun i G => Ex H4 G ∧ G D = some (.lst ((List.replicate i false).map V.bl)))
    ⟨ex_put hD (Ex.refl H4), upd_same⟩ (fun i G _ h => st_of (h.1 _ _ ha4)) (fun i G v G' hi' hpv hy => ?_) (fun G hpv => ?_)
  · obtain ⟨rfl, hx'⟩ := hy
    obtain ⟨eG, hGD⟩ := hpv
    have prG := eG _ _ hpr4
    have fin : ∀ H7, Ex G' H7 → ∃ acc, H7 D = some (.lst acc) ∧ acc.length < sizeLine ∧ (Ex H4 (upd H7 D (.lst (acc ++ [.bl false]))) ∧ (upd H7 D (.lst (acc ++ [.bl false]))) D = some (.lst ((List.replicate (i + 1) false).map V.bl))) := fun H7 e7 => by
      refine ⟨_, e7 _ _ hGD, ?_, ex_put hD (eG.trans e7), ?_⟩
      · rw [sizeLine_eq, List.length_map, List.length_replicate]
        have : i < 5 := hi'
        omega
      · rw [upd_same, List.replicate_succ']; simp
    have other : ∀ {y : V} {ty : Value}, Xo.Bes K CP G' y → (∀ H', Ex G' H' → TyX K H' y ty) → PySem.W.kitOne K ty (.ref CP) = some false → gName 12 y (wipe σ [12]) G' fun σ2 H2 => wipe σ2 [12] = wipe σ [12] ∧ tYes σ2 H2 fun b H3 => if b = true then tOp (Xo.rOwnX K CP (spEqX K CP) C8.E0) (tVar 3) (tVar 12) σ2 H3 (fun y H4' => ∃ acc, H4' D = some (.lst acc) ∧ acc.length < sizeLine ∧ (Ex H4 (upd H4' D (.lst (acc ++ [y]))) ∧ (upd H4' D (.lst (acc ++ [y]))) D = some (.lst ((List.replicate (i + 1) false).map V.bl)))) else (Ex H4 H3 ∧ H3 D = some (.lst ((List.replicate (i + 1) false).map V.bl))) := fun {y ty} hb hty hk =>
      ⟨sw _, ⟨_, sj3 _, _, sj _, pr, dx, _, rfl, prG, hb, pr, dx, _, S text, y, rfl, prG, rfl, .inr ⟨ty, hty, hk, fun H7 e7 => ⟨false, rfl, fin H7 e7⟩⟩⟩⟩
    have hi5 : i < 5 := hi'
    have hv : v = .str (S text) ∨ v = .non ∨ v = .int 5 ∨ v = .ref t ∨ v = .ref x := by
      have : v ∈ [V.str (S text), .non, .int 5, .ref t, .ref x] := List.mem_of_getElem? hx'
      simpa using this
    clear hx'
    rcases hv with rfl | rfl | rfl | rfl | rfl
    · exact other (.str _ NC.str) (fun H' _ => .base (.str _)) NC.kstr
    · exact other (.non NC.non) (fun H' _ => .base .non) NC.knon
    · exact other (.int _ NC.int) (fun H' _ => .base (.int _)) NC.kint
    · exact other (.tup (eG _ _ ht4) NC.tup) (fun H' e' => .base (.tup (e' _ _ (eG _ _ ht4)))) NC.ktup
    · have hiG := eG _ _ hi4
      have hS : decide (S text = S T2) = false := decide_eq_false fun z => ne (S_inj z)
      exact ⟨sw _, ⟨_, sj3 _, _, sj _, pr, dx, _, rfl, prG, .ins hiG, pr, dx, _, S text, .ref x, rfl, prG, rfl, .inl ⟨x, dy, _, S T2, rfl, hiG, rfl, fun H7 e7 => ⟨false, by rw [hS], fin H7 e7⟩⟩⟩⟩
  · obtain ⟨eG, hGD⟩ := hpv
    refine ⟨D, List.replicate 5 false, rfl, sq_of hGD, ?_⟩
    exact q G ((e13.trans e4).trans eG)
end
end K5
set_option Elab.async false
set_option linter.all false
set_option maxRecDepth 100000
set_option maxHeartbeats 4000000
namespace K5
open PySem PySem.Spec PyProof.Rows L2 Evl Xl SX Mi Xr
theorem q_asgG {te : TE} {g : TG} {tz : TS} {D : Ends} {σ : L2.St} {H : Hp} (h : te σ H fun x H1 => g x σ H1 fun σ' H' => tz D σ' H') : tSeq (tAsg te g) tz D σ H := h
theorem s_asgG {te : TE} {g : TG} {D : Ends} {σ : L2.St} {H : Hp} (h : te σ H fun x H1 => g x σ H1 fun σ' H' => D.nx σ' H') : tAsg te g D σ H := h
theorem el_init {K : PySem.W.Frag} {σ : L2.St} {H : Hp} {te th : TE} {l : Addr} {rs : List Addr} {n : Nat} (h : Ev te σ H (.ref l)) (hl : H l = some (.lst (rs.map V.ref))) (hn : rs.length = n + 1) (hm : Ev th σ H (.int (-1))) : EvL (tSl (rSlL K) te tNoPart (tPart th)) σ H ((rs.take n).map V.ref) := by
  have := el_sl (K := K) h eo_none (eo_some hm) (sq_of hl)
  rw [cut_last (by intro z; have := congrArg List.length z; rw [List.length_map, hn] at this; cases this)] at this
  have e : (rs.map V.ref).dropLast = (rs.take n).map V.ref := by rw [List.dropLast_eq_take, List.length_map, hn, ← List.map_take]; rfl
  rw [e] at this
  exact this
theorem take_parts {ps : List Pt} {e : Tr} : (ps.map partW ++ [runWs e]).take ps.length = ps.map partW := by
  have : ps.length = (ps.map partW).length := by simp
  rw [this, List.take_left]
theorem ints_of : ∀ {ys : List V} {n : Nat}, (∀ y ∈ ys, ∃ j : Nat, y = .int j ∧ j < n) → ∃ js : List Nat, ys = (js.map fun j : Nat => (j : Int)).map V.int ∧ ∀ j ∈ js, j < n := by
  intro ys n
  induction ys with
  | nil => intro _; exact ⟨[], rfl, fun j hj => by cases hj⟩
  | cons y r ih =>
    intro h
    obtain ⟨j, rfl, hj⟩ := h y (List.mem_cons_self ..)
    obtain ⟨js, h1, h2⟩ := ih fun x hx => h x (List.mem_cons_of_mem _ hx)
    refine ⟨j :: js, by rw [h1]; rfl, fun i hi => ?_⟩
    rcases List.mem_cons.1 hi with rfl | hi
    · exact hj
    · exact h2 i hi
theorem rg_mem {n : Nat} {y : V} (h : y ∈ rgV 0 (n : Int)) : ∃ j : Nat, y = .int j ∧ j < n := by
  unfold rgV at h
  obtain ⟨j, hj, rfl⟩ := List.mem_map.1 h
  have := List.mem_range.1 hj
  exact ⟨j, by rw [Int.zero_add], by omega⟩
theorem rg_nodup {n : Nat} : (rgV 0 (n : Int)).Nodup := by
  unfold rgV List.Nodup
  rw [List.pairwise_map]
  refine List.Pairwise.imp ?_ (List.nodup_range (n := ((n : Int) - 0).toNat))
  intro a b h z
  injection z with z
  omega
/-- the places drawn, sorted -/
theorem spots_of {n : Nat} {ys rs : List V} (pm : (ys ++ rs).Perm (rgV 0 (n : Int))) : ∃ ns : List Int, ys = ns.map V.int ∧ ∀ ns' : List Int, ns'.Perm ns → ns'.Pairwise (fun a b => a ≤ b) → ∃ js : List Nat, ns' = js.map (fun j : Nat => (j : Int)) ∧ js.Pairwise (· < ·) ∧ (∀ j ∈ js, j < n) ∧ js.length = ys.length := by
  obtain ⟨js, h1, h2⟩ := ints_of fun y hy => rg_mem (pm.mem_iff.1 (List.mem_append_left rs hy))
  refine ⟨_, h1, fun ns' hp hs => ?_⟩
  have nd : ys.Nodup := (List.nodup_append.1 (pm.nodup_iff.2 rg_nodup)).1
  rw [h1] at nd
  have nd2 : (js.map fun j : Nat => (j : Int)).Nodup := by
    unfold List.Nodup at nd ⊢
    rw [List.pairwise_map] at nd
    exact nd.imp fun h z => h (by rw [z])
  obtain ⟨ks, h3, h4⟩ := nats_of (ns := ns') (n := n) fun x hx => by
    obtain ⟨j, hj, rfl⟩ := List.mem_map.1 (hp.mem_iff.1 hx)
    exact ⟨j, rfl, h2 j hj⟩
  subst h3
  refine ⟨ks, rfl, strict_of hs (hp.nodup_iff.2 nd2), h4, ?_⟩
  have := hp.length_eq
  rw [List.length_map, List.length_map] at this
  rw [this, h1, List.length_map, List.length_map]
theorem plus_one {ps : List Pt} {e : Tr} (or : RunOk ps e) (bn : Bns ps e) (hl : (runWs e).length ≤ 100) : RunOk ps (if ps = [] then e else plusT 48 e) := by
  have hd := bn.dp
  split
  · exact or
  · exact plus_run (.inl rfl) or (by omega) (by omega)
theorem LsAt.putN {H : Hp} {x : Addr} {as zs : List V} {rs : List Addr} {ls : List (List Wd)} (h : LsAt H rs ls) (hx : H x = some (.lst as)) (ha : ∀ z ∈ as, ∀ y, z ≠ .str y) : LsAt (upd H x (.lst zs)) rs ls := h.mono fun r l hr hl => by
  have : r ≠ x := fun e => by
    rw [e, hx] at hr
    injection hr with hr; injection hr with hr
    cases l with
    | nil => exact hl rfl
    | cons a b => exact ha (.str (S a)) (by rw [hr]; exact List.mem_cons_self ..) _ rfl
  rw [upd_ne this]; exact hr
theorem keep_put {H : Hp} {x : Addr} {o : HO} : Keep (fun c => c = x) H (upd H x o) := fun c u hc h => by rw [upd_ne hc]; exact h
theorem tabs_put {Pt : Addr} {q : Str} {x : Addr} {xs zs : List V} {H : Hp} (t : LamX.Tabs [(Pt, q)] H) (hx : H x = some (.lst xs)) : LamX.Tabs [(Pt, q)] (upd H x (.lst zs)) := tabs_keep t hx keep_put
/-- numbers told -/
def nmV (js : List Nat) : List V := js.map fun j : Nat => V.int ((j : Int) + 1)
theorem nm_no (js : List Nat) : ∀ z ∈ nmV js, ∀ y, z ≠ V.str y := fun z hz y e => by
  unfold nmV at hz
  obtain ⟨j, _, rfl⟩ := List.mem_map.1 hz
  cases e
theorem filter_if {kd : Nat → Nat} {k a : Nat} {j : Nat} {l : List Nat} (h : j ∉ l) : l.filter (fun x => (if x = j then k else kd x) == a) = l.filter (fun x => kd x == a) :=
  List.filter_congr fun x hx => by rw [if_neg fun z => h (by rw [← z]; exact hx)]
end K5
namespace K5
open PySem PySem.Spec PyProof.Rows L2 Evl Xl SX Mi Xr
theorem q_par3 {ta : TA} {σ : L2.St} {H : Hp} {i j l : Nat} {D : Ends} {tz : TS} (h : ta σ H fun vs H1 => ∃ u v w, vs = [u, v, w] ∧ tz D (((σ.set i (some u)).set j (some v)).set l (some w)) H1) : tSeq (tPar3 i j l ta) tz D σ H := h
theorem zero_le_sz : ([] : List V).length ≤ sizeLine := Nat.zero_le _
end K5
namespace K5
open PySem PySem.Spec PyProof.Rows L2 Evl Xl SX Mi Xr
theorem r_lstRg {te : TE} {σ : L2.St} {H : Hp} {Q : VK} {n : Nat} (h : Ev te σ H (.int (n : Nat))) (hn : n ≤ 1000) (k : ∀ (p : Addr) (H1 : Hp), Ex H H1 → H p = none → H1 p = some (.lst (rgV 0 (n : Nat))) → Q (.ref p) H1) : tLstRg (tRg1 te) σ H Q :=
  h H (Ex.refl H) _ fun H1 e1 => ⟨_, rfl, RgOk.of_le (by omega) (by omega) (by omega) (by omega), fun p hp => k p _ (e1.trans (Ex.new hp)) (fresh_back e1 hp) upd_same⟩
end K5
namespace K5
open PySem PySem.Spec PyProof.Rows L2 Evl Xl SX Mi Xr
theorem notin_take {js : List Nat} (h : js.Pairwise (· < ·)) {i j : Nat} (hj : js[i]? = some j) : j ∉ js.take i := fun hm => by
  obtain ⟨hi, rfl⟩ := List.getElem?_eq_some_iff.1 hj
  obtain ⟨k, hk, e⟩ := List.getElem_of_mem hm
  rw [List.length_take] at hk
  rw [List.getElem_take] at e
  have := List.pairwise_iff_getElem.1 h k i (by omega) hi (by omega)
  omega
theorem filt_same {kd : Nat → Nat} {a j : Nat} {l : List Nat} (h : j ∉ l) : (l ++ [j]).filter (fun x => (if x = j then a else kd x) == a) = l.filter (fun x => kd x == a) ++ [j] := by
  rw [List.filter_append, filter_if h]
  simp
theorem filt_other {kd : Nat → Nat} {a b j : Nat} {l : List Nat} (h : j ∉ l) (hab : a ≠ b) : (l ++ [j]).filter (fun x => (if x = j then a else kd x) == b) = l.filter (fun x => kd x == b) := by
  rw [List.filter_append, filter_if h]
  simp [hab]
theorem nm_app {l : List Nat} {j : Nat} : nmV (l ++ [j]) = nmV l ++ [V.int ((j : Int) + 1)] := by simp [nmV]
theorem nm_len {l : List Nat} : (nmV l).length = l.length := by simp [nmV]
theorem refs_are {ss : List Addr} : ∀ z ∈ ss.map V.ref, ∃ a, z = V.ref a := fun z hz => by
  obtain ⟨a, _, rfl⟩ := List.mem_map.1 hz
  exact ⟨a, rfl⟩
end K5
namespace K5
open PySem PySem.Spec PyProof.Rows L2 Evl Xl SX Mi Xr
theorem q_unless {sp : Sp} {dvs : List V} {E : XK} {ta : TA} {tu tz : TS} {D : Ends} {σ : L2.St} {H : Hp} (h : ta σ H fun vs H1 => sp (vs ++ dvs) H1 (fun x H2 => ∃ c, x = V.bl c ∧ (if (!c) = true then tu { nx := tz D, rt := D.rt, bk := D.bk, ct := D.ct } σ H2 else tz D σ H2)) E) :
    tSeq (tIfS (tNot (tB (tCall sp dvs E ta))) tu tNext) tz D σ H := h
end K5
set_option Elab.async false
set_option linter.all false
set_option maxRecDepth 100000
set_option maxHeartbeats 4000000
namespace K5
open PySem PySem.Spec PyProof.Rows L2 Evl Xl SX Mi Xr
abbrev nRi : List Str := ["pot", "lines", "text", "program", "names", "spots", "wrong", "late", "some", "at", "is_late", "words", "value"]
theorem scRi : FnScope nRi ["pot"] (C8.fnScope (top 57)) := C8.fnScope_by (by decide +kernel)
section
variable {P : Program} {w : World} {K : PySem.W.Frag} {mg : Str → Option Value} {base : Heap} {f : Addr} {fd : FuncData}
/-- all but the pot stays, tables aside -/
def KpN (p : Addr) (H H' : Hp) : Prop := ∀ (b : Addr) (o : HO), b ≠ p → H b = some o → (∀ ps, o ≠ .tbl ps) → H' b = some o
def spRi (Pt : Addr) : Sp := fun vs H Q _ => ∃ p : Addr, vs = [.ref p] ∧ TT1 Pt H ∧ PotAt p 0 H ∧ ∀ H', KpN p H H' → TT1 Pt H' → Q (.bl true) H'
theorem ok_right {Pt CB CP CL C fg fT fP fQ pT pP : Addr} {fdg fdT fdP fdQ : FuncData} (F : C8.Fun K "_law_right" "_law_right" (top 57) f fd)
    (T : Txt5 K w mg) (G : ProgC K mg CP) (IS : IsC K CP) (NC : NotC K CP) (any_ : mg "any" = none)
    (cTk : C8.Cal P w K mg base 1 "_law_take" spTk []) (cD : C8.Cal P w K mg base 21 "_law_drawn_program" spDrawnX []) (cP : C8.Cal P w K mg base 1 "_law_program_text" spPText []) (cS : C8.Cal P w K mg base 2 "_law_some" (spSome K) []) (cL : C8.Cal P w K mg base 3 "_law_spoilt_line" spSpl []) (cF : C8.Cal P w K mg base 11 "_law_is_refused_at" (spRef Pt) [])
    (MP : Mk K CP fg) (FG : FnOk P w K mg base (L2.CX P w) 7 fg fdg ["self", "text"] (spPrX K CB CP CL C)) (bG : Binds K fdg ["self", "text"] []) (bGk : KBn K fdg ["self", "text"] 1 ["text"] (fun us ws => us ++ ws) (fun vs zs => vs ++ zs))
    (PT : PropOf K CP "text" pT fT) (FT : FnOk P w K mg base C8.CX0 1 fT fdT ["self"] (getSp CP "_text")) (bT : Binds K fdT ["self"] [])
    (PP : PropOf K CP "parts" pP fP) (FP : FnOk P w K mg base C8.CX0 1 fP fdP ["self"] (getSp CP "_parts")) (bP : Binds K fdP ["self"] [])
    (FQ : FnOk P w K mg base C8.CX0 1 fQ fdQ ["self", "other"] (spEqX K CP)) (hQ : PySem.W.findIn K (.ref CP) "__eq__" = some (some (.ref fQ))) (hQf : PySem.W.isFn K (.ref fQ) = true) (bQ : Binds K fdQ ["self", "other"] []) (hNe : PySem.W.findIn K (.ref CP) "__ne__" = some (some (.builtin "object.__ne__"))) :
    Xg.FnG P w K mg base C8.CX0 22 f fd ["pot"] (spRi Pt) := by
  obtain ⟨oc, od, dV, kV, doc, pm, an, cdv, ct, osl, rfl, lk, hcd⟩ := F.ex
  refine Xg.fnG_of lk hcd scRi (fun h => by obtain ⟨p, rfl, _⟩ := h; rfl) fun A outer s H vs Q E hg hr h => ?_
  obtain ⟨p, rfl, hT, hp, k⟩ := h
  have hu := hr.units
  have hu1 : (A.deeper (envOfC "_law_right" (C8.fnScope (top 57)) s.heap.objs.size f cdv)).units + 1 < cLine := by omega
  suffices z : ∃ t, PSs (cxOf C8.CX0 P w K mg base nRi "_law_right" (C8.fnScope (top 57)) f cdv A outer s H E).nox (C8.fnBody (top 57)) t ∧ t { nx := fun _ H' => Q .non H', rt := Q } (start nRi [.ref p]) H by
    obtain ⟨t, h1, h2⟩ := z
    exact ⟨t, h1.nox, h2⟩
  refine ⟨_, pss_cons (ps_set (i := 1) scRi.nd rfl (Or.inl rfl) (C8.pe_c cD hr (by decide) (by rfl) (pa_cons (pv 0) (pa_cons (C8.pe_c cTk hr (by decide) (by rfl) (pa_cons (pv 0) (pa_cons pe_int pa_nil))) (pa_cons (pe_op op_add pe_int (C8.pe_c cTk hr (by decide) (by rfl) (pa_cons (pv 0) (pa_cons pe_int pa_nil)))) pa_nil)))))
    (pss_cons (ps_set (i := 2) scRi.nd rfl (Or.inl rfl) (C8.pe_c cP hr (by decide) (by rfl) (pa_cons (pv 1) pa_nil)))
    (pss_cons (ps_if (pt_cmpR op_gt (pe_callB (cr_max rfl) (by rfl) T.max_ (by decide +kernel) (pa_cons (pe_lc (own := [("words", 11)]) (g := gName 11) (tt := tYes) (te := tCB (rLenS K) (tCons (tVar 11) tNil)) rfl scRi.nd (pi_list (pv 1)) (blkOk_by (N := nRi) (sc := C8.fnScope (top 57)) (by decide +kernel))
        (fun _ _ _ _ _ => pg_name (i := 11) scRi.nd rfl (Or.inl rfl)) (fun _ _ _ _ _ => pts_nil) (fun _ _ _ _ _ => pe_callB call_len_seq (by rfl) T.len_ boot_len (pa_cons (pv 11) pa_nil))) pa_nil)) pe_int (nomark _)) (pss_one (ps_ret pe_bl)) pss_nil)
    (pss_cons (ps_asg (pe_tup (pa_cons (pe_make (E := C8.E0) MP FG (hr.mono (by decide)) (by rfl) G.mgC bG .nil passX (pa_cons (pv 2) pa_nil)) (pa_cons (pe_callTy call_tuple_of (by rfl) T.tuple_ (by decide +kernel) (pa_cons (pe_lc (own := [("words", 11)]) (g := gName 11) (tt := tYes) (te := tOp (rIxL K) (tVar 11) (tC (.int 1))) rfl scRi.nd (pi_list (pe_slice sl_list (pv 1) po_none (po_some (pe_un un_neg pe_int)))) (blkOk_by (N := nRi) (sc := C8.fnScope (top 57)) (by decide +kernel))
        (fun _ _ _ _ _ => pg_name (i := 11) scRi.nd rfl (Or.inl rfl)) (fun _ _ _ _ _ => pts_nil) (fun _ _ _ _ _ => pe_ix ix_list (pv 11) pe_int (fun _ _ => rfl))) pa_nil)) pa_nil))) (pg_tup rfl (pgs_cons (pg_name (i := 3) scRi.nd rfl (Or.inr rfl)) (pgs_cons (pg_name (i := 4) scRi.nd rfl (Or.inl rfl)) pgs_nil))))
    (pss_cons (ps_if (pw_or (pt_cmpR op_ne (pe_callB (Xt.call_repr_data hg hu) (by rfl) T.repr_ (by decide +kernel) (pa_cons (pe_tup (pa_cons (pe_prop (E := C8.E0) (pv 3) G.cl PT FT (hr.mono (by decide)) bT .nil C8.pass0 (by rfl)) (pa_cons (pe_prop (E := C8.E0) (pv 3) G.cl PP FP (hr.mono (by decide)) bP .nil C8.pass0 (by rfl)) pa_nil))) pa_nil)) (pe_callB (Xt.call_repr_data hg hu) (by rfl) T.repr_ (by decide +kernel) (pa_cons (pe_tup (pa_cons (pv 2) (pa_cons (pv 4) pa_nil))) pa_nil)) (nomark _))
        (pw_or1 (pt_cmpR (Xo.op_neO (E := C8.E0) FQ hQ hQf IS.hm hNe bQ C8.pass0 (hr.mono (by decide))) (pe_makeK0 (E := C8.E0) (ks := ["text"]) MP FG (hr.mono (by decide)) (by rfl) G.mgC bGk passX (pk_cons (pe_prop (E := C8.E0) (pv 3) G.cl PT FT (hr.mono (by decide)) bT .nil C8.pass0 (by rfl)) pk_nil)) (pv 3) (nomark _)))).pt (pss_one (ps_ret pe_bl)) pss_nil)
    (pss_cons (ps_if (pt_val (pe_callB (cr_any rfl) (by rfl) any_ (by decide +kernel) (pa_cons (pe_lc (own := [("value", 12)]) (g := gName 12) (tt := tYes) (te := tOp (Xo.rOwnX K CP (spEqX K CP) C8.E0) (tVar 3) (tVar 12)) rfl scRi.nd (pi_tup (pe_tup (pa_cons (pv 2) (pa_cons pe_non (Xu.pa_int (pat_cons (Xu.PET.of (pe_tup (pa_cons (pv 2) pa_nil))) (pat_cons (Xu.pet_make (E := C8.E0) MP FG (hr.mono (by decide)) (by rfl) G.mgC bG .nil passX (pat_cons (Xu.pet_rp1 (Xu.pet_rp (Xu.PET.of (pv 2)) (by decide)) (by decide)) pat_nil)) pat_nil))))))) (blkOk_by (N := nRi) (sc := C8.fnScope (top 57)) (by decide +kernel))
        (fun _ _ _ _ _ => pg_name (i := 12) scRi.nd rfl (Or.inl rfl)) (fun _ _ _ _ _ => pts_nil) (fun _ _ _ _ _ => pe_cmpR (Xo.op_eqX (E := C8.E0) FQ hQ hQf bQ C8.pass0 (hr.mono (by decide))) (pv 3) (pv 12) (nomark _))) pa_nil))) (pss_one (ps_ret pe_bl)) pss_nil)
    (pss_cons (ps_set (i := 5) scRi.nd rfl (Or.inl rfl) (pe_callB cr_sorted (by rfl) T.sorted_ (by decide +kernel) (pa_cons (C8.pe_c cS hr (by decide) (by rfl) (pa_cons (pv 0) (pa_cons (pe_listRg rfl (by rfl) T.list_ (prg_1 (by rfl) T.range_ (pe_callB call_len_seq (by rfl) T.len_ boot_len (pa_cons (pv 1) pa_nil)))) (pa_cons (pe_callB (call_min2 rfl) (by rfl) T.min_ (by decide +kernel) (pa_cons (pe_callB call_len_seq (by rfl) T.len_ boot_len (pa_cons (pv 1) pa_nil)) (pa_cons (pe_op op_add pe_int (C8.pe_c cTk hr (by decide) (by rfl) (pa_cons (pv 0) (pa_cons pe_int pa_nil)))) pa_nil))) pa_nil)))) pa_nil)))
    (pss_cons (ps_par3 (i := 6) (j := 7) (l := 8) (by rfl) scRi.nd rfl rfl rfl (by decide) (by decide) (by decide) rfl rfl rfl (pa_cons (pe_lst pa_nil) (pa_cons (pe_lst pa_nil) (pa_cons (pe_callTy call_list_of (by rfl) T.list_ (by decide +kernel) (pa_cons (pv 1) pa_nil)) pa_nil))) (by rfl))
    (pss_cons (ps_for PassesOwn.never rfl (pi_list (pv 5)) (pg_name (i := 9) scRi.nd rfl (Or.inl rfl)) (pss_cons (ps_asg (C8.pe_c cL hr (by decide) (by rfl) (pa_cons (pv 0) (pa_cons (pe_ix ix_list (pv 1) (pv 9) (fun _ _ => rfl)) pa_nil))) (pg_tup rfl (pgs_cons (pg_sub (pv 8) (pv 9) set_list) (pgs_cons (pg_name (i := 10) scRi.nd rfl (Or.inl rfl)) pgs_nil))))
        (pss_one (ps_if (pt_val (pv 10)) (pss_one (ps_expr (pe_bm PySem.F.plainAttrs_list PySem.F.slot_list_append PySem.F.type_list_append mt_append (pv 7) (pa_cons (pe_op op_add (pv 9) pe_int) pa_nil)))) (pss_one (ps_expr (pe_bm PySem.F.plainAttrs_list PySem.F.slot_list_append PySem.F.type_list_append mt_append (pv 6) (pa_cons (pe_op op_add (pv 9) pe_int) pa_nil))))))))
    (pss_cons (ps_if (pt_not (pt_val (C8.pe_c cF hr (by decide) (by rfl) (pa_cons (C8.pe_c cP hr (by decide) (by rfl) (pa_cons (pv 8) pa_nil)) (pa_cons (pe_ix ix_list (pe_op op_cat (pv 6) (pv 7)) pe_int (fun _ _ => rfl)) pa_nil))))) (pss_one (ps_ret pe_bl)) pss_nil)
    (pss_one (ps_ret (C8.pe_c cF hr (by decide) (by rfl) (pa_cons (C8.pe_c cP hr (by decide) (by rfl) (pa_cons (pe_slice sl_list (pv 1) po_none (po_some (pe_un un_neg pe_int))) pa_nil)) (pa_cons (pe_op op_add (pe_callB (call_max2 rfl) (by rfl) T.max_ (by decide +kernel) (pa_cons pe_int (pa_cons (pe_op op_sub (pe_callB call_len_seq (by rfl) T.len_ boot_len (pa_cons (pv 1) pa_nil)) pe_int) pa_nil))) (pe_callTy call_int1 (by rfl) T.int_ (by decide +kernel) (pa_cons (pe_cmpR op_gt (pe_callB call_len_seq (by rfl) T.len_ boot_len (pa_cons (pv 1) pa_nil)) pe_int (nomark _)) pa_nil))) pa_nil)))))))))))))), ?_⟩
  -- the lines
  refine q_asgR (r_callA (r_cons ⟨_, rfl, r_cons (r_take (u := 5) (ea_cons (ev_var rfl) (ea_cons ev_c ea_nil)) (by decide) (by decide) hp (by decide) fun mn c1 H1 hmn k1 hp1 hc1 => r_cons (r_op (r_c (r_take (u := 3) (ea_cons (ev_var rfl) (ea_cons ev_c ea_nil)) (by decide) (by decide) hp1 (by omega) fun r c2 H2 hr3 k2 hp2 hc2 => ⟨_, _, rfl, rfl, ?_⟩))))⟩))
  refine ⟨1 + r, ⟨by omega, by omega⟩, p, c2, mn, by simp, by omega, hp2, by omega, fun q rs ps e c3 H3 k3 hp3 hc3 hq at3 okp okr h4 hl100 => ?_⟩
  obtain ⟨h4, bn⟩ := h4
  obtain ⟨o0, m0, hpe, _⟩ := hp
  have kH3 : Kp p H H3 := (k1.trans k2).trans k3
  have hT3 : TT1 Pt H3 := tabs_keep hT hpe kH3
  have hc3' : c3 ≤ 1480004 := by omega
  clear k1 k2 k3 hp1 hp2
  have sh3 := short_start okp okr h4 hl100
  have tl3 := lines_len sh3.1 sh3.2
  have lc3 : (ps.map partW ++ [runWs e]).map (TL.joinL [32]) = ps.map partT ++ [runT e] := by
    rw [List.map_append, parts_lines]; rfl
  rw [lc3] at tl3
  dsimp only [List.set]
  -- the text
  refine q_asg (ev_ptext (cs := ps.map partW ++ [runWs e]) (ev_var rfl) hq at3 sh3) fun H4 e4 => ?_
  rw [lc3]
  obtain ⟨ls, l, hread, hln, rd⟩ := readProg_tr okp okr
  have ft := fit_drawn okp okr h4
  have low : K5.Low (textT (ps.map partT ++ [runT e])) := fun c hc => Nat.lt_trans (low_text okp okr c hc) (by decide)
  have hcl : (ps.map partW ++ [runWs e]).length = ps.length + 1 := by simp
  have hrl : rs.length = ps.length + 1 := by rw [at3.len, hcl]
  have fitE := fun (E : RunOk ps (if ps = [] then e else plusT 48 e)) => fit_drawn okp E h4
  have or1 := plus_one okr bn (hl100 _ (List.mem_append_right _ (List.mem_singleton.2 rfl)))
  have or2 := plus_two okr bn (hl100 _ (List.mem_append_right _ (List.mem_singleton.2 rfl)))
  have ft1 := fit_drawn okp or1 h4
  have ft2 := fit_drawn okp or2 h4
  obtain ⟨ls2, l2, _, _, rd2⟩ := readProg_tr okp or2
  have rp1 := text_first okp okr
  have rp2 := text_second okp okr bn
  have apart := text_longer2 (ps := ps) (e := e) (n := 49) (m := 48)
  have sq4 := e4 _ _ hq
  have at4 := at3.ex e4
  -- not too long
  refine q_when (b := false) (et_maxgt (el_lens (vs := [11]) rfl sq4 at4 (by rw [hcl]; omega) (fun _ => rfl) (fun _ => rfl)) (by rw [List.length_map, hcl]; omega) (fun x hx => ?_)) (fun z => (by cases z)) fun _ H5 e5 => ?_
  · obtain ⟨c, hc, rfl⟩ := List.mem_map.1 hx
    have := hl100 c hc
    omega
  have e35 := e4.trans e5
  have sq5 := e35 _ _ hq
  have at5 := at3.ex e35
  -- the program, the names
  refine q_asgG (r_tup (r_cons (r_prog (ls := ls ++ [l]) (ea_cons (ev_var rfl) ea_nil) ft rd fun pr dx H6 hpr0 e6 hP => r_cons (r_cb ((el_names (K := K) (ps := ps) (rs := rs.take ps.length) (vs := [11]) (el_init (ev_var rfl) (e6 _ _ sq5) hrl (ev_un ev_c ru_neg)) (by have := (at5.ex e6).take_ (j := ps.length); rwa [take_parts] at this) (by omega) (fun _ => rfl) (fun _ => rfl) : EvL _ _ H6 _) H6 (Ex.refl H6) _ fun nl H7 hnl e7 hnx =>
    ⟨nl, _, rfl, .inl ⟨sq_of hnx, fun tn htn => ⟨two_le, fun tt htt => ⟨tt, _, rfl, st_of upd_same, rfl, _, _, rfl, _, _, rfl, rfl, ?_⟩⟩⟩⟩)))))
  obtain ⟨dl, tp, dn, tl, tb, hpr6, htp6⟩ := prog_ins hP
  have hnm : ((ls ++ [l]).dropLast.map (·.name)).map (fun x => V.str (S x)) = (nmsP ps).map fun n => V.str (S n) := by
    rw [List.dropLast_concat, hread.name]
  rw [hnm] at htp6
  have e68 : Ex H6 (upd (upd H7 tn (.tup ((nmsP ps).map fun n => V.str (S n)))) tt (.tup [.ref pr, .ref tn])) := e7.trans (ex_put (fresh_back (ex_put htn (Ex.refl H7)) htt) (ex_put htn (Ex.refl H7)))
  have htn8 : (upd (upd H7 tn (.tup ((nmsP ps).map fun n => V.str (S n)))) tt (.tup [.ref pr, .ref tn])) tn = some (.tup ((nmsP ps).map fun n => V.str (S n))) := by
    rw [upd_ne (fun z => by rw [← z, upd_same] at htt; cases htt), upd_same]
  generalize upd (upd H7 tn (.tup ((nmsP ps).map fun n => V.str (S n)))) tt (.tup [.ref pr, .ref tn]) = H8 at e68 htn8 ⊢
  have hpr8 := e68 _ _ hpr6
  have htp8 := e68 _ _ htp6
  have e38 := e35.trans (e6.trans e68)
  -- the same text, the same parts
  have lnms : ∀ n ∈ nmsP ps, K5.Low n ∧ n.length ≤ 8 := fun n hn => by
    obtain ⟨pt, hpt, rfl⟩ := List.mem_map.1 hn
    exact ⟨fun c hc => Nat.lt_trans (low_free (okp.free pt hpt) c hc) (by decide), free_len (okp.free pt hpt)⟩
  have l9 : (textT (ps.map partT ++ [runT e])).length ≤ 9000 := by have := ft.1; omega
  have l91 : (textT (ps.map partT ++ [runT (if ps = [] then e else plusT 48 e)])).length ≤ 9000 := by have := ft1.1; omega
  refine q_when (b := false) (et_is (et_or (a := false) (b := false) (et_same (d := DT (textT (ps.map partT ++ [runT e])) (nmsP ps)) (evd_tup (ds := [_, _]) (evds_cons (evd_prop (ev_var rfl) hpr8 rfl (.str _)) (evds_cons (evd_prop (ev_var rfl) hpr8 rfl (.tup (st_of htp8) (dps_names _))) evds_nil)) (by show 2 ≤ 1000; decide))
      (evd_tup (ds := [_, _]) (evds_cons (evd_var rfl (.str _)) (evds_cons (evd_var rfl (.tup (st_of htn8) (dps_names _))) evds_nil)) (by show 2 ≤ 1000; decide)) (showOk_txt low l9 lnms (by unfold nmsP; rw [List.length_map]; exact h4))) fun _ => et_neP rfl hpr8 ft rd) rfl) (fun z => (by cases z)) fun _ H9 e9 => ?_
  -- like nothing else
  refine q_when (b := false) (et_anyP (T1 := textT (ps.map partT ++ [runT (if ps = [] then e else plusT 48 e)])) NC rfl rfl (fun _ => rfl) (fun _ => rfl) (fun _ => rfl) (e9 _ _ hpr8) (by decide) (by decide) rp1 rp2 l9 l91 ft2 rd2 (fun z => apart z.symm)) (fun z => (by cases z)) fun _ H10 e10 => ?_
  have e310 := e38.trans (e9.trans e10)
  have hp10 := hp3.ex e310
  have hT10 := tabs_ex hT3 e310
  have sq10 := e310 _ _ hq
  have at10 := at3.ex e310
  -- the places
  have hrl2 : (rs.map V.ref).length = ps.length + 1 := by rw [List.length_map, hrl]
  refine q_asgR (r_cb (r_callA (r_cons ⟨_, rfl, r_cons ?_⟩)))
  have lenE : ∀ {G : Hp} {σ : L2.St}, σ[1]? = some (some (.ref q)) → G q = some (.lst (rs.map V.ref)) → Ev (tCB (rLenS K) (tCons (tVar 1) tNil)) σ G (.int ((ps.length + 1 : Nat) : Int)) := fun h1 h2 => by
    have := ev_len (K := K) (ev_var h1) (sq_of h2)
    rwa [hrl2] at this
  refine r_lstRg (lenE rfl sq10) (by omega) fun pl H12 e12 hpl hpl12 => ?_
  have hplp : pl ≠ p := pot_ne hp10 hpl
  refine r_cons (r_cons ((lenE rfl (e12 _ _ sq10)) H12 (Ex.refl H12) _ fun H13 e13 => r_cons (r_op (r_c (r_take (u := 2) (ea_cons (ev_var rfl) (ea_cons ev_c ea_nil)) (by decide) (by decide) ((hp10.ex e12).ex e13) (by omega) fun r2 c4 H14 hr2 k14 hp14 hc4 => ⟨_, _, rfl, rfl, ⟨_, _, rfl, ?_⟩⟩)))))
  obtain ⟨m, hm, hm0, hmn⟩ : ∃ m : Nat, (if (1 + (r2 : Int)) < ((ps.length + 1 : Nat) : Int) then (1 + (r2 : Int)) else ((ps.length + 1 : Nat) : Int)) = (m : Int) ∧ 1 ≤ m ∧ m ≤ ps.length + 1 := by
    by_cases z : (1 + (r2 : Int)) < ((ps.length + 1 : Nat) : Int)
    · exact ⟨1 + r2, by rw [if_pos z]; omega, by omega, by omega⟩
    · exact ⟨ps.length + 1, by rw [if_neg z], by omega, by omega⟩
  have k1014 : Kp p H10 H14 := (Keep.of (e12.trans e13)).trans k14
  refine ⟨p, pl, c4, m, rgV 0 ((ps.length + 1 : Nat) : Int), by rw [hm]; rfl, hp14, by omega, k14 _ _ hplp (e13 _ _ hpl12), by rw [rgV_length]; omega, by rw [rgV_length]; omega, fun q2 ys rs2 c5 H15 k15 hp15 hc5 hq2 hys pm => ?_⟩
  obtain ⟨ns, rfl, key⟩ := spots_of pm
  refine ⟨q2, ns, rfl, sq_of hq2, by rw [List.length_map] at hys; omega, fun ns' spo hperm hsort hspo => ?_⟩
  obtain ⟨js, rfl, js1, js2, js3⟩ := key ns' hperm hsort
  have hspp : spo ≠ p := pot_ne hp15 hspo
  have k1016 : Kp p H10 (upd H15 spo (.lst ((js.map (fun j : Nat => (j : Int))).map V.int))) := (k1014.trans k15).ex (Ex.new hspo)
  have hp16 := hp15.ex (show Ex H15 (upd H15 spo (.lst ((js.map (fun j : Nat => (j : Int))).map V.int))) from Ex.new hspo)
  have hsp16 : (upd H15 spo (.lst ((js.map (fun j : Nat => (j : Int))).map V.int))) spo = some (.lst ((js.map (fun j : Nat => (j : Int))).map V.int)) := upd_same
  generalize upd H15 spo (.lst ((js.map (fun j : Nat => (j : Int))).map V.int)) = H16 at k1016 hp16 hsp16 ⊢
  have hqp : q ≠ p := fun z => by
    obtain ⟨o, m', z1, _⟩ := hp10
    rw [← z, sq10] at z1
    injection z1 with z1; injection z1 with z1
    cases rs with
    | nil => cases z1
    | cons a b => injection z1 with z1 _; cases z1
  have sq16 := k1016 _ _ hqp sq10
  have at16 := at10.keep hp10 k1016
  have hT16 : TT1 Pt H16 := by
    obtain ⟨o, m', z1, _⟩ := hp10
    exact tabs_keep hT10 z1 k1016
  clear k1014 k14 k15 hq2 hperm hsort pm key hpl12 hp14 hp15
  -- what is told
  refine q_par3 (r_cons (r_lst ⟨zero_le_sz, fun wr hwr => r_cons (r_lst ⟨zero_le_sz, fun la hla => r_cons (r_cb ⟨_, rfl, q, _, rfl, .inl (sq_of (ex_put (fresh_back (Ex.new hwr) hla) (Ex.new hwr) _ _ sq16)), fun so hso => ⟨_, _, _, rfl, ?_⟩⟩)⟩)⟩))
  have hwrp : wr ≠ p := pot_ne hp16 hwr
  have e17 : Ex H16 (upd H16 wr (.lst [])) := Ex.new hwr
  have hla16 := fresh_back e17 hla
  have hlap : la ≠ p := pot_ne hp16 hla16
  have hlw : la ≠ wr := fun z => by rw [z, upd_same] at hla; cases hla
  have e18 : Ex H16 (upd (upd H16 wr (.lst [])) la (.lst [])) := e17.trans (Ex.new hla)
  have hso16 := fresh_back e18 hso
  have hsop : so ≠ p := pot_ne hp16 hso16
  have hsl : so ≠ la := fun z => by rw [z, upd_same] at hso; cases hso
  have hsw : so ≠ wr := fun z => by rw [z, upd_ne (Ne.symm hlw), upd_same] at hso; cases hso
  have e19 : Ex H16 (upd (upd (upd H16 wr (.lst [])) la (.lst [])) so (.lst (rs.map V.ref))) := e18.trans (Ex.new hso)
  have hso19 : (upd (upd (upd H16 wr (.lst [])) la (.lst [])) so (.lst (rs.map V.ref))) so = some (.lst (rs.map V.ref)) := upd_same
  have hla19 : (upd (upd (upd H16 wr (.lst [])) la (.lst [])) so (.lst (rs.map V.ref))) la = some (.lst []) := by rw [upd_ne (Ne.symm hsl), upd_same]
  have hwr19 : (upd (upd (upd H16 wr (.lst [])) la (.lst [])) so (.lst (rs.map V.ref))) wr = some (.lst []) := by rw [upd_ne (Ne.symm hsw), upd_ne (Ne.symm hlw), upd_same]
  generalize upd (upd (upd H16 wr (.lst [])) la (.lst [])) so (.lst (rs.map V.ref)) = H19 at e19 hso19 hla19 hwr19 ⊢
  have ne16 : ∀ {c : Addr} {o : HO}, H16 c = some o → c ≠ wr ∧ c ≠ la ∧ c ≠ so := fun h => ⟨fun z => (by rw [z, hwr] at h; cases h), fun z => (by rw [z, hla16] at h; cases h), fun z => (by rw [z, hso16] at h; cases h)⟩
  have nq := ne16 sq16
  have ns := ne16 hsp16
  have jl : js.length ≤ 5 := by omega
  refine ⟨_, rfl, spo, rfl, ⟨_, sq_of (e19 _ _ hsp16)⟩, for_it walk_list (fun i σ' G => (∃ a9 a10, σ' = [some (.ref p), some (.ref q), some (.str (S (textT (ps.map partT ++ [runT e])))), some (.ref pr), some (.ref tn), some (.ref spo), some (.ref wr), some (.ref la), some (.ref so), a9, a10, none, none]) ∧ (Kp p H16 G ∧ TT1 Pt G) ∧ G q = some (.lst (rs.map V.ref)) ∧ LsAt G rs (ps.map partW ++ [runWs e]) ∧ G spo = some (.lst ((js.map (fun j : Nat => (j : Int))).map V.int)) ∧
    ∃ (c : Nat) (kd : Nat → Nat) (M : List (List Wd)) (ss : List Addr), PotAt p c G ∧ c ≤ c5 + 3 * i ∧ G wr = some (.lst (nmV ((js.take i).filter fun x => kd x == 2))) ∧ G la = some (.lst (nmV ((js.take i).filter fun x => kd x == 1))) ∧ G so = some (.lst (ss.map V.ref)) ∧ LsAt G ss M ∧ SpAll ps e M kd ∧ Short M ∧ (∀ j, j ∉ js.take i → kd j = 0) ∧ ∀ j ∈ js.take i, kd j = 1 ∨ kd j = 2)
    ⟨⟨_, _, rfl⟩, ⟨Keep.of e19, tabs_ex hT16 e19⟩, e19 _ _ sq16, at16.ex e19, e19 _ _ hsp16, c5, fun _ => 0, _, rs, hp16.ex e19, by omega, hwr19, hla19, hso19, at16.ex e19, sp_start, sh3, fun _ _ => rfl, fun j hj => by cases hj⟩
    (fun _ _ G _ h => sq_of h.2.2.2.2.1) (fun i x σ' G G' hi h hy => ?_) (fun σ' G h => ?_)⟩
  · obtain ⟨rfl, hx⟩ := hy
    obtain ⟨⟨a9, a10, rfl⟩, ⟨kG, hTG⟩, sqG, atG, hspG, c, kd, M, ss, hpG, hcG, hwG, hlG, hsoG, atS, spA, shM, k0, k12⟩ := h
    have hi5 : i < js.length := by rwa [List.length_map, List.length_map] at hi
    rw [List.getElem?_map, List.getElem?_map, List.getElem?_eq_getElem hi5] at hx
    obtain ⟨j, zj⟩ : ∃ j, js[i]? = some j := ⟨_, List.getElem?_eq_getElem hi5⟩
    rw [List.getElem?_eq_getElem hi5] at zj
    injection zj with zj
    rw [zj] at hx
    obtain rfl : V.int (j : Int) = x := Option.some.inj hx
    have zj : js[i]? = some j := by rw [List.getElem?_eq_getElem hi5, zj]
    have hjm : j ∈ js := List.mem_of_getElem? zj
    have hj : j ≤ ps.length := by have := js2 j hjm; omega
    have hjn := notin_take js1 zj
    have htk : js.take (i + 1) = js.take i ++ [j] := by rw [List.take_add_one, zj]; rfl
    obtain ⟨aj, haj⟩ : ∃ a, rs[j]? = some a := ⟨rs[j]'(by omega), List.getElem?_eq_getElem (by omega)⟩
    obtain ⟨w0, hw0, hajG⟩ := atG.at_ haj
    rw [line_at hj] at hw0
    obtain rfl := Option.some.inj hw0
    obtain ⟨hd1, ok1⟩ := line_hd okp okr (j := j)
    have len1 : ((lineOf ps e j).1 ++ (lineOf ps e j).2.words).length ≤ 100 := hl100 _ (List.mem_of_getElem? (line_at hj))
    have hix : (rs.map V.ref)[j]? = some (.ref aj) := by rw [List.getElem?_map, haj]; rfl
    have ssl : ss.length = ps.length + 1 := by rw [atS.len, spA.len]
    refine q_asgG (r_callA (r_cons ⟨_, rfl, r_cons ((ev_op (ev_var rfl) (ev_var rfl) (rv_ixL (K := K) (sq_of sqG) (atI_nat hix)) : Ev _ _ G' _) G' (Ex.refl G') _ fun G1 eG1 => ⟨p, aj, c, _, _, rfl, hpG.ex eG1, by omega, eG1 _ _ hajG, hd1, ok1, by omega, fun t q' late c' G2 W' kp2 hp2 hc2 ht hq' spw hlen w9 =>
      ⟨t, _, rfl, st_of ht, rfl, _, _, rfl, ⟨_, rfl, _, rfl, so, ss.map V.ref, j, j, rfl, rfl, kp2 _ _ hsop (eG1 _ _ hsoG), ixN_nat (by rw [List.length_map]; omega), _, _, rfl, rfl, ?_⟩⟩⟩)⟩))
    have hso2 := kp2 _ _ hsop (eG1 _ _ hsoG)
    have hwr2 := kp2 _ _ hwrp (eG1 _ _ hwG)
    have hla2 := kp2 _ _ hlap (eG1 _ _ hlG)
    have sq2 := kp2 _ _ hqp (eG1 _ _ sqG)
    have hsp2 := kp2 _ _ hspp (eG1 _ _ hspG)
    have at2 := (atG.ex eG1).keep (hpG.ex eG1) kp2
    have atS2 := (atS.ex eG1).keep (hpG.ex eG1) kp2
    have hT2 : TT1 Pt G2 := by
      obtain ⟨o, m', z1, _⟩ := hpG.ex eG1
      exact tabs_keep (tabs_ex hTG eG1) z1 kp2
    have back : ∀ {G : Hp} {o : HO} {y : Addr}, H16 y = none → Kp p H16 G → Kp p H16 (upd G y o) := fun {G o y} hy kG x u hx hu => by
      have : x ≠ y := fun z => by rw [z, hy] at hu; cases hu
      rw [upd_ne this]; exact kG x u hx hu
    have kG3 : Kp p H16 (upd G2 so (.lst ((ss.map V.ref).set j (.ref q')))) := back hso16 ((kG.ex eG1).trans kp2)
    have hq3 : (upd G2 so (.lst ((ss.map V.ref).set j (.ref q')))) q' = some (.lst (wV W')) := (LsAt.put_ (rs := [q']) (ls := [W']) ⟨⟨hq', hlen.1⟩, trivial⟩ hso2 refs_are).1.1
    have at3' := at2.put_ (zs := (ss.map V.ref).set j (.ref q')) hso2 refs_are
    have atS3 := (atS2.put_ (zs := (ss.map V.ref).set j (.ref q')) hso2 refs_are).set_ (j := j) hq3 hlen.1
    have hT3' := tabs_put (zs := (ss.map V.ref).set j (.ref q')) hT2 hso2
    have hp3' : PotAt p c' (upd G2 so (.lst ((ss.map V.ref).set j (.ref q')))) := hp2.put_ hsop
    have hso3 : (upd G2 so (.lst ((ss.map V.ref).set j (.ref q')))) so = some (.lst ((ss.set j q').map V.ref)) := by rw [upd_same, List.map_set]
    have hwr3 : (upd G2 so (.lst ((ss.map V.ref).set j (.ref q')))) wr = _ := (upd_ne (Ne.symm hsw)).trans hwr2
    have hla3 : (upd G2 so (.lst ((ss.map V.ref).set j (.ref q')))) la = _ := (upd_ne (Ne.symm hsl)).trans hla2
    have sq3 : (upd G2 so (.lst ((ss.map V.ref).set j (.ref q')))) q = _ := (upd_ne nq.2.2).trans sq2
    have hsp3 : (upd G2 so (.lst ((ss.map V.ref).set j (.ref q')))) spo = _ := (upd_ne ns.2.2).trans hsp2
    generalize upd G2 so (.lst ((ss.map V.ref).set j (.ref q'))) = G3 at kG3 hq3 at3' atS3 hT3' hp3' hso3 hwr3 hla3 sq3 hsp3 ⊢
    have spN := sp_set hj spA spw
    have shN := shM.set_ (j := j) hlen.2 w9
    have k0N : ∀ k : Nat, ∀ x, x ∉ js.take (i + 1) → (if x = j then k else kd x) = 0 := fun k x hx => by
      rw [htk] at hx
      rw [if_neg fun z => hx (by rw [z]; simp)]
      exact k0 x fun hm => hx (List.mem_append_left _ hm)
    have k12N : ∀ k : Nat, (k = 1 ∨ k = 2) → ∀ x ∈ js.take (i + 1), (if x = j then k else kd x) = 1 ∨ (if x = j then k else kd x) = 2 := fun k hk x hx => by
      by_cases z : x = j
      · rw [if_pos z]; exact hk
      · rw [if_neg z]
        rw [htk] at hx
        rcases List.mem_append.1 hx with hm | hm
        · exact k12 x hm
        · exact absurd (List.mem_singleton.1 hm) z
    have fl : ∀ (f : Nat → Bool), (nmV ((js.take i).filter f)).length < sizeLine := fun f => by
      refine len_sz (n := 100) ?_ (by decide)
      rw [nm_len]
      have h1 := List.length_filter_le f (js.take i)
      rw [List.length_take] at h1
      omega
    refine (et_B (ev_var rfl) : EvT (tB (tVar 10)) _ G3 late) G3 (Ex.refl G3) _ fun G4 e4' => ?_
    have hs4 := e4' _ _ hso3
    have hw4 := e4' _ _ hwr3
    have hl4 := e4' _ _ hla3
    cases late with
    | true =>
      refine s_app rfl hl4 ((ev_op (ev_var rfl) ev_c rv_I0 : Ev _ _ G4 (.int ((j : Int) + 1))) G4 (Ex.refl G4) _ fun G5 e5' => ⟨_, e5' _ _ hl4, fl _, ?_⟩)
      have e35' := e4'.trans e5'
      have hl5 := e5' _ _ hl4
      refine ⟨⟨_, _, rfl⟩, ⟨back hla16 (kG3.ex e35'), tabs_put (tabs_ex hT3' e35') hl5⟩, (upd_ne nq.2.1).trans (e35' _ _ sq3), (at3'.ex e35').putN hl5 (nm_no _), (upd_ne ns.2.1).trans (e35' _ _ hsp3), c', _, _, _, (hp3'.ex e35').put_ hlap, by omega, ?_, ?_, (upd_ne hsl).trans (e35' _ _ hso3), (atS3.ex e35').putN hl5 (nm_no _), spN, shN, k0N _, k12N _ (.inl rfl)⟩
      · rw [upd_ne (Ne.symm hlw), htk]
        show G5 wr = some (.lst (nmV ((js.take i ++ [j]).filter fun x => (if x = j then 1 else kd x) == 2)))
        rw [filt_other hjn (by decide)]
        exact e35' _ _ hwr3
      · rw [upd_same, htk]
        show _ = some (HO.lst (nmV ((js.take i ++ [j]).filter fun x => (if x = j then 1 else kd x) == 1)))
        rw [filt_same hjn, nm_app]
    | false =>
      refine s_app rfl hw4 ((ev_op (ev_var rfl) ev_c rv_I0 : Ev _ _ G4 (.int ((j : Int) + 1))) G4 (Ex.refl G4) _ fun G5 e5' => ⟨_, e5' _ _ hw4, fl _, ?_⟩)
      have e35' := e4'.trans e5'
      have hw5 := e5' _ _ hw4
      refine ⟨⟨_, _, rfl⟩, ⟨back hwr (kG3.ex e35'), tabs_put (tabs_ex hT3' e35') hw5⟩, (upd_ne nq.1).trans (e35' _ _ sq3), (at3'.ex e35').putN hw5 (nm_no _), (upd_ne ns.1).trans (e35' _ _ hsp3), c', _, _, _, (hp3'.ex e35').put_ hwrp, by omega, ?_, ?_, (upd_ne hsw).trans (e35' _ _ hso3), (atS3.ex e35').putN hw5 (nm_no _), spN, shN, k0N _, k12N _ (.inr rfl)⟩
      · rw [upd_same, htk]
        show _ = some (HO.lst (nmV ((js.take i ++ [j]).filter fun x => (if x = j then 2 else kd x) == 2)))
        rw [filt_same hjn, nm_app]
      · rw [upd_ne hlw, htk]
        show G5 la = some (.lst (nmV ((js.take i ++ [j]).filter fun x => (if x = j then 2 else kd x) == 1)))
        rw [filt_other hjn (by decide)]
        exact e35' _ _ hla3
  obtain ⟨⟨a9, a10, rfl⟩, ⟨kG, hTG⟩, sqG, atG, hspG, c, kd, M, ss, hpG, hcG, hwG, hlG, hsoG, atS, spA, shM, k0, k12⟩ := h
  rw [List.length_map, List.length_map, List.take_length] at hwG hlG k0 k12
  obtain ⟨j0, r0, hfil, hj0, rdE⟩ := sp_first okp okr bn js1 (fun z => by rw [z] at js3; simp only [List.length_nil] at js3; omega) (fun j hj => by have := js2 j hj; omega) spA k0 k12
  have fitM := fit_of shM (sp_plain okp okr spA)
  have nms0 : (nmV (js.filter fun x => kd x == 2) ++ nmV (js.filter fun x => kd x == 1))[0]? = some (V.int ((j0 : Int) + 1)) := by
    have e1 : nmV (js.filter fun x => kd x == 2) ++ nmV (js.filter fun x => kd x == 1) = nmV (js.filter (fun x => kd x == 2) ++ js.filter fun x => kd x == 1) := by simp [nmV]
    rw [e1, hfil]; rfl
  have nml : (nmV (js.filter fun x => kd x == 2)).length + (nmV (js.filter fun x => kd x == 1)).length ≤ 10 := by
    rw [nm_len, nm_len]
    have h1 := List.length_filter_le (fun x => kd x == 2) js
    have h2 := List.length_filter_le (fun x => kd x == 1) js
    omega
  -- refused at the first of them
  refine q_unless (r_cons ((ev_ptext (ev_var rfl) hsoG atS shM : Ev _ _ G _) G (Ex.refl G) _ fun H20 e20 => r_cons (r_op (r_op ⟨_, rfl, _, rfl, wr, la, _, _, rfl, rfl, e20 _ _ hwG, e20 _ _ hlG, by rw [sizeLine_eq]; omega, fun cc hcc => ?_⟩))))
  refine r_c ?_
  refine (rv_ixL (K := K) (sq_of upd_same) (atI_nat (j := 0) nms0) : RV (rIxL K) (.ref cc) (.int ((0 : Nat) : Int)) (upd H20 cc (.lst (nmV (js.filter fun x => kd x == 2) ++ nmV (js.filter fun x => kd x == 1)))) _) _ (Ex.refl _) _ fun H22 e22 => ?_
  have e2022 := (e20.trans (Ex.new hcc)).trans e22
  refine ⟨textT (M.map (TL.joinL [32])), j0 + 1, rfl, tabs_ex hTG e2022, ⟨by have := fitM.1; omega, fitM.2⟩, rdE, by omega, fun H23 eN hT23 => ⟨true, rfl, ?_⟩⟩
  have sq23 := eN _ _ (e2022 _ _ sqG) (fun _ z => by cases z)
  have at23 := (atG.ex e2022).extN eN
  -- the line run out
  have shP : Short (ps.map partW) := by have := sh3.take_ (j := ps.length); rwa [take_parts] at this
  have fitP := fit_of shP (fun c hc => by
    obtain ⟨pt, hpt, rfl⟩ := List.mem_map.1 hc
    exact partT_plain okp _ (List.mem_map_of_mem hpt))
  rw [parts_lines] at fitP
  have atP : LsAt H23 (rs.take ps.length) (ps.map partW) := by have := at23.take_ (j := ps.length); rwa [take_parts] at this
  refine r_ret (r_callA (r_cons ((ev_ptextL (el_init (K := K) (ev_var rfl) sq23 hrl (ev_un ev_c ru_neg)) atP shP : Ev _ _ H23 _) H23 (Ex.refl H23) _ fun H24 e24 => r_cons ((ev_op (ev_max2 ev_c (ev_op (lenE rfl (e24 _ _ sq23)) ev_c rv_I0)) (ev_intB (ev_op (lenE rfl (e24 _ _ sq23)) ev_c rv_I0)) rv_I0 : Ev _ _ H24 _) H24 (Ex.refl H24) _ fun H25 e25 => ?_))))
  rw [parts_lines]
  refine ⟨textT (ps.map partT), max 1 ps.length + (if ps = [] then 0 else 1), ?_, tabs_ex hT23 (e24.trans e25), ⟨by have := fitP.1; omega, fitP.2⟩, sp_short okp bn, by split <;> omega, fun H' eN2 hT' => k H' (fun b o hb ho hn => eN2 _ _ ((e24.trans e25) _ _ (eN _ _ (e2022 _ _ ((((kH3.ex e310).trans k1016).trans kG) b o hb ho)) hn)) hn) hT'⟩
  have num : ((if ((ps.length + 1 : Nat) : Int) - 1 > 1 then ((ps.length + 1 : Nat) : Int) - 1 else 1) + if decide (1 < ((ps.length + 1 : Nat) : Int)) = true then 1 else 0) = ((max 1 ps.length + (if ps = [] then 0 else 1) : Nat) : Int) := by
    by_cases z : ps = []
    · subst z; rfl
    · have z1 : 0 < ps.length := List.length_pos_iff.2 z
      rw [if_neg z, if_pos (decide_eq_true (by omega)), Nat.max_eq_right z1]
      generalize ps.length = n at z1
      by_cases z2 : ((n + 1 : Nat) : Int) - 1 > 1
      · rw [if_pos z2]; omega
      · rw [if_neg z2]; omega
  rw [num]
  rfl
end
end K5
set_option Elab.async false
set_option linter.all false
set_option maxRecDepth 100000
set_option maxHeartbeats 4000000
namespace K5
open PySem PySem.Spec PyProof.Rows L2 Evl Xl SX Mi Xr
section
variable {P : Program} {w : World} {K : PySem.W.Frag} {mg : Str → Option Value} {base : Heap} {f g Pt : Addr} {fd gd : FuncData}
/-- the places of the cells looked at -/
def spCe (K : PySem.W.Frag) : Sp := fun vs H Q _ => ∃ (a : Addr) (ns : List Int), vs = [.ref a, .int 2] ∧ SqL K H a (ns.map V.int) ∧ ∀ (q : Addr) (n : Nat) (H' : Hp), n ≤ 2 → H q = none → Ex H H' → H' q = some (.lst (rgV 0 (n : Nat))) → Q (.ref q) H'
abbrev nCe : List Str := ["script", "limit"]
theorem scCe : FnScope nCe ["script", "limit"] (C8.fnScope (top 42)) := C8.fnScope_by (by decide +kernel)
theorem ok_cells (F : C8.Def K mg "_law_cells" (top 42) f fd) (b : Binds K fd ["script", "limit"] []) (T : Txt5 K w mg) : C8.Cal P w K mg base 1 "_law_cells" (spCe K) [] := by
  refine C8.cal0 F b .nil scCe (fun vs H Q E h => by obtain ⟨a, ns, rfl, _⟩ := h; rfl) (fun cdv A outer s H vs Q E hr h => ?_)
  obtain ⟨a, ns, rfl, ha, k⟩ := h
  refine ⟨_, pss_one (ps_ret (pe_listRg rfl (by rfl) T.list_ (prg_1 (by rfl) T.range_ (pe_callB (call_max2 rfl) (by rfl) T.max_ (by decide +kernel) (pa_cons pe_int (pa_cons (pe_callB (call_min2 rfl) (by rfl) T.min_ (by decide +kernel) (pa_cons (pv 1) (pa_cons (pe_callB call_len_seq (by rfl) T.len_ boot_len (pa_cons (pv 0) pa_nil)) pa_nil))) pa_nil)))))), ?_⟩
  have h1 : Ev (tCB (fun xs H Q => ∃ i j, xs = [V.int i, V.int j] ∧ Q (V.int (if j < i then j else i)) H) (tCons (tVar 1) (tCons (tCB (rLenS K) (tCons (tVar 0) tNil)) tNil))) (start nCe [.ref a, .int 2]) H (.int (if (((ns.map V.int).length : Nat) : Int) < 2 then (((ns.map V.int).length : Nat) : Int) else 2)) :=
    ev_cb (ea_cons (ev_var rfl) (ea_cons (ev_len (ev_var rfl) ha) ea_nil)) fun H1 e1 Q q => ⟨_, _, rfl, q H1 (Ex.refl H1)⟩
  obtain ⟨n, hn, hn2⟩ : ∃ n : Nat, (if (if (((ns.map V.int).length : Nat) : Int) < 2 then (((ns.map V.int).length : Nat) : Int) else 2) > 1 then (if (((ns.map V.int).length : Nat) : Int) < 2 then (((ns.map V.int).length : Nat) : Int) else 2) else (1 : Int)) = (n : Int) ∧ n ≤ 2 := by
    by_cases z : (((ns.map V.int).length : Nat) : Int) < 2
    · refine ⟨1, ?_, by omega⟩
      rw [if_pos z]; split <;> omega
    · exact ⟨2, by rw [if_neg z]; rfl, by omega⟩
  have h2 := ev_max2 (ev_c (v := V.int 1)) h1
  rw [hn] at h2
  exact r_ret (r_lstRg h2 (by omega) fun p H1 e1 hp hx => k p n H1 hn2 hp e1 hx)
def spLaw (K : PySem.W.Frag) (Pt : Addr) : Sp := fun vs H Q _ => ∃ (a : Addr) (ns : List Int), vs = [.ref a] ∧ SqL K H a (ns.map V.int) ∧ ns.length ≤ 63 ∧ LamX.Tabs [(Pt, qn)] H ∧ ∀ H', Q (.bl true) H'
abbrev nLw : List Str := ["script", "place"]
theorem scLw : FnScope nLw ["script"] (C8.fnScope (top 58)) := C8.fnScope_by (by decide +kernel)
theorem sql_n {H H' : Hp} {a : Addr} {xs : List V} (e : LamX.ExtN H H') (h : SqL K H a xs) : SqL K H' a xs := l_lt (LT.ofN e) h
theorem ok_law (F : C8.Fun K "law" "law" (top 58) f fd) (T : Txt5 K w mg) (cC : C8.Cal P w K mg base 1 "_law_cells" (spCe K) []) (cP : C8.Cal P w K mg base 1 "_law_pot" (spPotG K) []) (FR : Xg.FnG P w K mg base C8.CX0 22 g gd ["pot"] (spRi Pt)) (mR : mg "_law_right" = some (.ref g)) (kR : PySem.W.keepIn K (.ref g) = true) (bR : Binds K gd ["pot"] []) : Xg.FnG P w K mg base C8.CX0 23 f fd ["script"] (spLaw K Pt) := by
  obtain ⟨oc, od, dV, kV, doc, pm, an, cdv, ct, osl, rfl, lk, hcd⟩ := F.ex
  refine Xg.fnG_of lk hcd scLw (fun h => by obtain ⟨a, ns, rfl, _⟩ := h; rfl) fun A outer s H vs Q E hg hr h => ?_
  obtain ⟨a, ns, rfl, ha, hn, hT, k⟩ := h
  suffices z : ∃ t, PSs (cxOf C8.CX0 P w K mg base nLw "law" (C8.fnScope (top 58)) f cdv A outer s H E).nox (C8.fnBody (top 58)) t ∧ t { nx := fun _ H' => Q .non H', rt := Q } (start nLw [.ref a]) H by
    obtain ⟨t, h1, h2⟩ := z
    exact ⟨t, h1.nox, h2⟩
  refine ⟨_, pss_one (ps_ret (pe_callB (cr_all rfl) (by rfl) T.all_ (by decide +kernel) (pa_cons (pe_lc (own := [("place", 1)]) (g := gName 1) (tt := tYes) (te := tCall (spRi Pt) [] C8.E0 (tCons (tCall (spPotG K) [] C8.E0 (tCons (tVar 0) (tCons (tVar 1) tNil))) tNil)) rfl scLw.nd (pi_list (C8.pe_c cC hr (by decide) (by rfl) (pa_cons (pv 0) (pa_cons pe_int pa_nil)))) (blkOk_by (N := nLw) (sc := C8.fnScope (top 58)) (by decide +kernel))
    (fun _ _ _ _ _ => pg_name (i := 1) scLw.nd rfl (Or.inl rfl)) (fun _ _ _ _ _ => pts_nil) (fun _ _ _ _ _ => Xg.pe_callG (E := C8.E0) FR hg hr (by rfl) mR kR bR .nil C8.pass0 (pa_cons (C8.pe_c cP hr (by decide) (by rfl) (pa_cons (pv 0) (pa_cons (pv 1) pa_nil))) pa_nil))) pa_nil))), ?_⟩
  refine r_ret (r_cb (r_callA (r_cons ⟨_, rfl, r_cons (r_c ?_)⟩)))
  refine ⟨a, ns, rfl, ha, fun q n H1 hn2 hq e1 hq1 => ⟨q, rfl, ⟨_, sq_of hq1⟩, fun D hD => ?_⟩⟩
  have lrg : (rgV 0 (n : Int)).length = n := by rw [rgV_length]; omega
  refine comp_walk (body := fun x H' Nx => gName 1 x (wipe (start nLw [V.ref a]) [1]) H' fun σ2 H2 => wipe σ2 [1] = wipe (start nLw [V.ref a]) [1] ∧ tYes σ2 H2 fun b H3 => if b = true then tCall (spRi Pt) [] C8.E0 (tCons (tCall (spPotG K) [] C8.E0 (tCons (tVar 0) (tCons (tVar 1) tNil))) tNil) σ2 H3 (fun y H4 => ∃ acc, H4 D = some (.lst acc) ∧ acc.length < sizeLine ∧ Nx (upd H4 D (.lst (acc ++ [y])))) else Nx H3)
    (walk_list (K := K) (a := q) (xs := rgV 0 (n : Int))) (fun i G => LamX.ExtN H1 G ∧ TT1 Pt G ∧ G D = some (.lst ((List.replicate i true).map V.bl)))
    ⟨extN_of (Ex.new hD), tabs_ex hT (e1.trans (Ex.new hD)), upd_same⟩ (fun i G _ h => sq_of (h.1 _ _ hq1 fun _ z => by cases z)) (fun i G x G' hi hpv hy => ?_) (fun G hpv => ?_)
  · obtain ⟨rfl, hx⟩ := hy
    obtain ⟨eG, hTG, hGD⟩ := hpv
    obtain ⟨j, rfl, hj⟩ := rg_mem (List.mem_of_getElem? hx)
    rw [lrg] at hi
    refine ⟨rfl, r_callA (r_cons (r_callA (r_cons ⟨_, rfl, r_cons ⟨_, rfl, ?_⟩⟩)))⟩
    refine ⟨a, ns, j, rfl, sql_n (fun b o hb hn => eG b o (e1 _ _ hb) hn) ha, hn, by omega, fun p H6 hp e6 hP => ?_⟩
    have hDp : D ≠ p := fun z => by rw [z, hp] at hGD; cases hGD
    refine ⟨p, rfl, tabs_ex hTG e6, hP, fun H7 k7 hT7 => ?_⟩
    have hD7 := k7 _ _ hDp (e6 _ _ hGD) (fun _ z => by cases z)
    refine ⟨_, hD7, ?_, fun b o hb ho => ?_, tabs_put hT7 hD7, ?_⟩
    · rw [sizeLine_eq, List.length_map, List.length_replicate]; omega
    · have hbD : b ≠ D := fun z => by rw [z, hD] at hb; cases hb
      rw [upd_ne hbD]
      have hG := eG b o hb ho
      exact k7 b o (fun z => by rw [z, hp] at hG; cases hG) (e6 _ _ hG) ho
    · rw [upd_same, List.replicate_succ']; simp
  · obtain ⟨eG, hTG, hGD⟩ := hpv
    refine ⟨D, _, rfl, sq_of hGD, ?_⟩
    have : (List.replicate (rgV 0 (n : Int)).length true).all id = true := by
      rw [List.all_eq_true]
      intro x hx
      rw [List.eq_of_mem_replicate hx]; rfl
    rw [this]
    exact k G
end
end K5
set_option Elab.async false
set_option linter.all false
set_option maxRecDepth 100000
set_option maxHeartbeats 4000000
namespace K5
open PySem PySem.Spec PyProof.Rows L2 Evl Xl SX Mi Xr
theorem find_step {x a : Wd} {hs : Int} {t : Tok} {v : Value} {r : List DictEntry} : List.find? (fun e : DictEntry => Value.isStrOf (S x) e.key) (⟨hs, .str (S a) t, v⟩ :: r) = if a = x then some ⟨hs, .str (S a) t, v⟩ else List.find? (fun e : DictEntry => Value.isStrOf (S x) e.key) r := by
  have : Value.isStrOf (S x) (.str (S a) t) = decide (a = x) := by
    show (S a == S x) = _
    exact S_beq_eq
  rw [List.find?_cons]
  simp only [this]
  by_cases h : a = x
  · simp [h]
  · simp [h]
theorem lookup_step {x a : Wd} {n : Nat} {r : List (Wd × Nat)} : List.lookup x ((a, n) :: r) = if a = x then some n else List.lookup x r := by
  rw [List.lookup_cons]
  by_cases h : a = x
  · subst h; simp
  · have : (x == a) = false := by simpa using fun z => h z.symm
    rw [this, if_neg h]
def entsOf (P : Params) : List (Wd × Nat) → List DictEntry → Prop
  | [], [] => True
  | (a, n) :: r, e :: es => (∃ hs t u, e = ⟨hs, .str (S a) t, .int (Int.ofNat n) u⟩) ∧ entsOf P r es
  | _, _ => False
theorem ents_rel {P : Params} {x : Wd} : ∀ {l : List (Wd × Nat)} {es : List DictEntry}, entsOf P l es → RelO ((l.lookup x).map fun n => V.int (Int.ofNat n)) ((List.find? (fun e : DictEntry => Value.isStrOf (S x) e.key) es).map (·.val)) := by
  intro l
  induction l with
  | nil =>
    intro es h
    cases es with
    | nil => trivial
    | cons e es => exact h.elim
  | cons a r ih =>
    intro es h
    obtain ⟨a, n⟩ := a
    cases es with
    | nil => exact h.elim
    | cons e es =>
      obtain ⟨⟨hs, t, u, rfl⟩, h2⟩ := h
      rw [lookup_step, find_step]
      by_cases z : a = x
      · rw [if_pos z, if_pos z]
        exact ⟨u, rfl⟩
      · rw [if_neg z, if_neg z]
        exact ih h2
theorem ari_rel {P : Params} {es : Array DictEntry} (h : entsOf P ARI es.toList) : ∀ z, RelO (ariV z) (findBy Value.isStrOf es z) := by
  intro z
  have hz : S z.cps.toList = z := S_tl z
  have := ents_rel (x := z.cps.toList) h
  rw [hz] at this
  have e : ariV z = (ARI.lookup z.cps.toList).map fun n => V.int (Int.ofNat n) := by
    unfold ariV ari
    cases ARI.lookup z.cps.toList <;> rfl
  rw [e]
  unfold findBy
  rw [← Array.find?_toList]
  exact this
theorem kit_same {K : PySem.W.Frag} {C : Addr} : PySem.W.kitOne K (.ref C) (.ref C) = some true := by
  unfold PySem.W.kitOne
  rw [if_pos (by simp)]
theorem cls_some {K : PySem.W.Frag} {C : Addr} {oc : Value} {od : Option Addr} {cd : ClassData} {sl : Array (Option Value)} (h : K.lookup C = some ⟨oc, od, .cls cd, sl⟩) : (PySem.W.clsIn K C).isSome = true := by
  unfold PySem.W.clsIn
  rw [h] <;> rfl
theorem exm_mk {K : PySem.W.Frag} {C D : Addr} (hs : (PySem.W.clsIn K D).isSome = true) (ht : PySem.W.typeIn K (.ref D) = some (.type "type")) (hb : PySem.W.subIn K (.ref D) (.type "BaseException") = some true) (h : PySem.W.subIn K (.ref C) (.ref D) = some true) : PySem.W.exmOne K (.ref C) (.ref D) = some true := by
  unfold PySem.W.exmOne PySem.W.kitCls
  rw [if_pos (by rw [hb]; rfl)]
  dsimp only
  rw [if_pos (by rw [hs, ht]; rfl)]
  exact h
theorem kit_str {K : PySem.W.Frag} {D : Addr} (hs : (PySem.W.clsIn K D).isSome = true) (ht : PySem.W.typeIn K (.ref D) = some (.type "type")) : PySem.W.kitOne K (.type "str") (.ref D) = some false := by
  unfold PySem.W.kitOne PySem.W.kitCls
  rw [if_neg (by simp)]
  dsimp only
  rw [if_pos (by rw [hs, ht]; rfl)]
  rfl
theorem kit_int {K : PySem.W.Frag} {D : Addr} (hs : (PySem.W.clsIn K D).isSome = true) (ht : PySem.W.typeIn K (.ref D) = some (.type "type")) : PySem.W.kitOne K (.type "int") (.ref D) = some false := by
  unfold PySem.W.kitOne PySem.W.kitCls
  rw [if_neg (by simp)]
  dsimp only
  rw [if_pos (by rw [hs, ht]; rfl)]
  rfl
theorem kit_NoneType {K : PySem.W.Frag} {D : Addr} (hs : (PySem.W.clsIn K D).isSome = true) (ht : PySem.W.typeIn K (.ref D) = some (.type "type")) : PySem.W.kitOne K (.type "NoneType") (.ref D) = some false := by
  unfold PySem.W.kitOne PySem.W.kitCls
  rw [if_neg (by simp)]
  dsimp only
  rw [if_pos (by rw [hs, ht]; rfl)]
  rfl
theorem kit_tuple {K : PySem.W.Frag} {D : Addr} (hs : (PySem.W.clsIn K D).isSome = true) (ht : PySem.W.typeIn K (.ref D) = some (.type "type")) : PySem.W.kitOne K (.type "tuple") (.ref D) = some false := by
  unfold PySem.W.kitOne PySem.W.kitCls
  rw [if_neg (by simp)]
  dsimp only
  rw [if_pos (by rw [hs, ht]; rfl)]
  rfl
theorem kl_nil {P : Params} : PySem.W.KeysLit P [] := by rw [PySem.W.KeysLit.eq_1]; trivial
theorem kl_cons {P : Params} {e : DictEntry} {r : List DictEntry} (h : ∃ x t, e.key = Value.str x t ∧ e.hash = PySem.PyData.keyHash P x) (hr : PySem.W.KeysLit P r) : PySem.W.KeysLit P (e :: r) := by rw [PySem.W.KeysLit.eq_2]; exact ⟨h, hr⟩
theorem eo_nil {P : Params} : entsOf P [] [] := trivial
theorem eo_cons {P : Params} {a : Wd} {n : Nat} {l : List (Wd × Nat)} {e : DictEntry} {r : List DictEntry} (h : ∃ hs t u, e = ⟨hs, .str (S a) t, .int (Int.ofNat n) u⟩) (hr : entsOf P l r) : entsOf P ((a, n) :: l) (e :: r) := ⟨h, hr⟩


theorem at_end {l : PySem.W.OpenLaw} {w : World} {K : PySem.W.Frag} {h : Heap} {mg : Str → Option Value} {fa : Addr} (X : K.In h) (G : h.Ns mainGlobals mg) (hfa : mg "law" = some (.ref fa))
    {c Pt : Addr} {f9 : Addr} {od9 an9 : Option Addr} {sl9 : Array (Option Value)} {oc9 kV9 dc9 pm9 ct9 cd9 : Value} {f12 : Addr} {od12 an12 : Option Addr} {sl12 : Array (Option Value)} {oc12 kV12 dc12 pm12 ct12 cd12 : Value} {f13 : Addr} {od13 an13 : Option Addr} {sl13 : Array (Option Value)} {oc13 kV13 dc13 pm13 ct13 cd13 : Value} {f20 : Addr} {od20 an20 : Option Addr} {sl20 : Array (Option Value)} {oc20 kV20 dc20 pm20 ct20 cd20 : Value} {f21 : Addr} {od21 an21 : Option Addr} {sl21 : Array (Option Value)} {oc21 kV21 dc21 pm21 ct21 cd21 : Value} {f22 : Addr} {od22 an22 : Option Addr} {sl22 : Array (Option Value)} {oc22 kV22 dc22 pm22 ct22 cd22 : Value} {f23 : Addr} {od23 an23 : Option Addr} {sl23 : Array (Option Value)} {oc23 kV23 dc23 pm23 ct23 cd23 : Value} {f24 : Addr} {od24 an24 : Option Addr} {sl24 : Array (Option Value)} {oc24 kV24 dc24 pm24 ct24 cd24 : Value} {f25 : Addr} {od25 an25 : Option Addr} {sl25 : Array (Option Value)} {oc25 kV25 dc25 pm25 ct25 cd25 : Value} {f30 : Addr} {od30 an30 : Option Addr} {sl30 : Array (Option Value)} {oc30 kV30 dc30 pm30 ct30 cd30 : Value} {f31 : Addr} {od31 an31 : Option Addr} {sl31 : Array (Option Value)} {oc31 kV31 dc31 pm31 ct31 cd31 : Value} {f32 : Addr} {od32 an32 : Option Addr} {sl32 : Array (Option Value)} {oc32 kV32 dc32 pm32 ct32 cd32 : Value} {f38 : Addr} {od38 an38 : Option Addr} {sl38 : Array (Option Value)} {oc38 kV38 dc38 pm38 ct38 cd38 : Value} {f39 : Addr} {od39 an39 : Option Addr} {sl39 : Array (Option Value)} {oc39 kV39 dc39 pm39 ct39 cd39 : Value} {f40 : Addr} {od40 an40 : Option Addr} {sl40 : Array (Option Value)} {oc40 kV40 dc40 pm40 ct40 cd40 : Value} {f41 : Addr} {od41 an41 : Option Addr} {sl41 : Array (Option Value)} {oc41 kV41 dc41 pm41 ct41 cd41 : Value} {f42 : Addr} {od42 an42 : Option Addr} {sl42 : Array (Option Value)} {oc42 kV42 dc42 pm42 ct42 cd42 : Value} {f44 : Addr} {od44 an44 : Option Addr} {sl44 : Array (Option Value)} {oc44 kV44 dc44 pm44 ct44 cd44 : Value} {f45 : Addr} {od45 an45 : Option Addr} {sl45 : Array (Option Value)} {oc45 kV45 dc45 pm45 ct45 cd45 : Value} {f46 : Addr} {od46 an46 : Option Addr} {sl46 : Array (Option Value)} {oc46 kV46 dc46 pm46 ct46 cd46 : Value} {f47 : Addr} {od47 an47 : Option Addr} {sl47 : Array (Option Value)} {oc47 kV47 dc47 pm47 ct47 cd47 : Value} {f48 : Addr} {od48 an48 : Option Addr} {sl48 : Array (Option Value)} {oc48 kV48 dc48 pm48 ct48 cd48 : Value} {f49 : Addr} {od49 an49 : Option Addr} {sl49 : Array (Option Value)} {oc49 kV49 dc49 pm49 ct49 cd49 : Value} {f50 : Addr} {od50 an50 : Option Addr} {sl50 : Array (Option Value)} {oc50 kV50 dc50 pm50 ct50 cd50 : Value} {f51 : Addr} {od51 an51 : Option Addr} {sl51 : Array (Option Value)} {oc51 kV51 dc51 pm51 ct51 cd51 : Value} {f52 : Addr} {od52 an52 : Option Addr} {sl52 : Array (Option Value)} {oc52 kV52 dc52 pm52 ct52 cd52 : Value} {f53 : Addr} {od53 an53 : Option Addr} {sl53 : Array (Option Value)} {oc53 kV53 dc53 pm53 ct53 cd53 : Value} {f54 : Addr} {od54 an54 : Option Addr} {sl54 : Array (Option Value)} {oc54 kV54 dc54 pm54 ct54 cd54 : Value} {f55 : Addr} {od55 an55 : Option Addr} {sl55 : Array (Option Value)} {oc55 kV55 dc55 pm55 ct55 cd55 : Value} {f43 : Addr} {od43 an43 : Option Addr} {sl43 : Array (Option Value)} {oc43 kV43 dc43 pm43 ct43 cd43 : Value} {f56 : Addr} {od56 an56 : Option Addr} {sl56 : Array (Option Value)} {oc56 kV56 dc56 pm56 ct56 : Value} {f57 : Addr} {od57 an57 : Option Addr} {sl57 : Array (Option Value)} {oc57 kV57 dc57 pm57 ct57 cd57 : Value} {f58 : Addr} {od58 an58 : Option Addr} {sl58 : Array (Option Value)} {oc58 kV58 dc58 pm58 ct58 cd58 : Value} {Ce : Addr} {fe : Addr} {ode ane : Option Addr} {sle : Array (Option Value)} {oce kVe dce pme cte cde : Value} {Cn : Addr} {fn : Addr} {odn ann : Option Addr} {sln : Array (Option Value)} {ocn kVn dcn pmn ctn cdn : Value} {Cl : Addr} {fl : Addr} {odl anl : Option Addr} {sll : Array (Option Value)} {ocl kVl dcl pml ctl cdl : Value} {Cg : Addr} {fg : Addr} {odg ang : Option Addr} {slg : Array (Option Value)} {ocg kVg dcg pmg ctg cdg : Value} {fpt : Addr} {odpt anpt : Option Addr} {slpt : Array (Option Value)} {ocpt kVpt dcpt pmpt ctpt cdpt : Value} {ppt : Addr} {restpt : List Value} {fpp : Addr} {odpp anpp : Option Addr} {slpp : Array (Option Value)} {ocpp kVpp dcpp pmpp ctpp cdpp : Value} {ppp : Addr} {restpp : List Value} {fq : Addr} {odq anq : Option Addr} {slq : Array (Option Value)} {ocq kVq dcq pmq ctq cdq : Value} {CB : Addr} {nmCB qCB : Str} {NCB : Addr} {bsCB bmCB : List Value} {snCB : List Str} {subCB : List Value} {abCB : Bool} {colCB : Option Bool} {ddCB : Option Addr} {k0CB k1CB k2CB k3CB k5CB : Option Value} {zLE zFI : Str} {tLE tFI tDE tMW tMP : Tok} {pBI : Addr} {oBI : Option Addr} {itsBI : Array Value} {mBI : Nat} {sBI : Array (Option Value)} {pLW : Addr} {oLW : Option Addr} {itsLW : Array Value} {mLW : Nat} {sLW : Array (Option Value)} {pBW : Addr} {oBW : Option Addr} {itsBW : Array Value} {mBW : Nat} {sBW : Array (Option Value)} {pAR : Addr} {esAR : Array DictEntry} {mAR : Nat} {odc : Option Addr} {vsc : Array Value} {slc : Array (Option Value)} {filec : Str} {tfc : Tok} {flagsc : Int} {tgc : Tok} {inFc : Bool} {textc : Int} {ttc : Tok}
    (a9 : PySem.W.nsIn K mainGlobals "is_text" = some (some (.ref f9)))
    (l9 : K.lookup f9 = some ⟨oc9, od9, .func (PySem.W.fnOf "is_text" "is_text" (C8.fnArgs (top 9)) (C8.fnBody (top 9)) (C8.fnScope (top 9)) .none kV9 dc9 pm9 an9 cd9 ct9), sl9⟩)
    (c9 : PySem.W.codeIn K cd9 "is_text" = true)
    (k9 : PySem.W.keepIn K (.ref f9) = true)
    (a12 : PySem.W.nsIn K mainGlobals "is_name" = some (some (.ref f12)))
    (l12 : K.lookup f12 = some ⟨oc12, od12, .func (PySem.W.fnOf "is_name" "is_name" (C8.fnArgs (top 12)) (C8.fnBody (top 12)) (C8.fnScope (top 12)) .none kV12 dc12 pm12 an12 cd12 ct12), sl12⟩)
    (c12 : PySem.W.codeIn K cd12 "is_name" = true)
    (k12 : PySem.W.keepIn K (.ref f12) = true)
    (a13 : PySem.W.nsIn K mainGlobals "integer_of" = some (some (.ref f13)))
    (l13 : K.lookup f13 = some ⟨oc13, od13, .func (PySem.W.fnOf "integer_of" "integer_of" (C8.fnArgs (top 13)) (C8.fnBody (top 13)) (C8.fnScope (top 13)) .none kV13 dc13 pm13 an13 cd13 ct13), sl13⟩)
    (c13 : PySem.W.codeIn K cd13 "integer_of" = true)
    (k13 : PySem.W.keepIn K (.ref f13) = true)
    (a20 : PySem.W.nsIn K mainGlobals "is_free" = some (some (.ref f20)))
    (l20 : K.lookup f20 = some ⟨oc20, od20, .func (PySem.W.fnOf "is_free" "is_free" (C8.fnArgs (top 20)) (C8.fnBody (top 20)) (C8.fnScope (top 20)) .none kV20 dc20 pm20 an20 cd20 ct20), sl20⟩)
    (c20 : PySem.W.codeIn K cd20 "is_free" = true)
    (k20 : PySem.W.keepIn K (.ref f20) = true)
    (a21 : PySem.W.nsIn K mainGlobals "read_expression" = some (some (.ref f21)))
    (l21 : K.lookup f21 = some ⟨oc21, od21, .func (PySem.W.fnOf "read_expression" "read_expression" (C8.fnArgs (top 21)) (C8.fnBody (top 21)) (C8.fnScope (top 21)) .none kV21 dc21 pm21 an21 cd21 ct21), sl21⟩)
    (c21 : PySem.W.codeIn K cd21 "read_expression" = true)
    (k21 : PySem.W.keepIn K (.ref f21) = true)
    (a22 : PySem.W.nsIn K mainGlobals "read_node" = some (some (.ref f22)))
    (l22 : K.lookup f22 = some ⟨oc22, od22, .func (PySem.W.fnOf "read_node" "read_node" (C8.fnArgs (top 22)) (C8.fnBody (top 22)) (C8.fnScope (top 22)) .none kV22 dc22 pm22 an22 cd22 ct22), sl22⟩)
    (c22 : PySem.W.codeIn K cd22 "read_node" = true)
    (k22 : PySem.W.keepIn K (.ref f22) = true)
    (a23 : PySem.W.nsIn K mainGlobals "is_written" = some (some (.ref f23)))
    (l23 : K.lookup f23 = some ⟨oc23, od23, .func (PySem.W.fnOf "is_written" "is_written" (C8.fnArgs (top 23)) (C8.fnBody (top 23)) (C8.fnScope (top 23)) .none kV23 dc23 pm23 an23 cd23 ct23), sl23⟩)
    (c23 : PySem.W.codeIn K cd23 "is_written" = true)
    (k23 : PySem.W.keepIn K (.ref f23) = true)
    (a24 : PySem.W.nsIn K mainGlobals "hang" = some (some (.ref f24)))
    (l24 : K.lookup f24 = some ⟨oc24, od24, .func (PySem.W.fnOf "hang" "hang" (C8.fnArgs (top 24)) (C8.fnBody (top 24)) (C8.fnScope (top 24)) .none kV24 dc24 pm24 an24 cd24 ct24), sl24⟩)
    (c24 : PySem.W.codeIn K cd24 "hang" = true)
    (k24 : PySem.W.keepIn K (.ref f24) = true)
    (a25 : PySem.W.nsIn K mainGlobals "bind" = some (some (.ref f25)))
    (l25 : K.lookup f25 = some ⟨oc25, od25, .func (PySem.W.fnOf "bind" "bind" (C8.fnArgs (top 25)) (C8.fnBody (top 25)) (C8.fnScope (top 25)) .none kV25 dc25 pm25 an25 cd25 ct25), sl25⟩)
    (c25 : PySem.W.codeIn K cd25 "bind" = true)
    (k25 : PySem.W.keepIn K (.ref f25) = true)
    (a30 : PySem.W.nsIn K mainGlobals "read_program" = some (some (.ref f30)))
    (l30 : K.lookup f30 = some ⟨oc30, od30, .func (PySem.W.fnOf "read_program" "read_program" (C8.fnArgs (top 30)) (C8.fnBody (top 30)) (C8.fnScope (top 30)) .none kV30 dc30 pm30 an30 cd30 ct30), sl30⟩)
    (c30 : PySem.W.codeIn K cd30 "read_program" = true)
    (k30 : PySem.W.keepIn K (.ref f30) = true)
    (a31 : PySem.W.nsIn K mainGlobals "read_line" = some (some (.ref f31)))
    (l31 : K.lookup f31 = some ⟨oc31, od31, .func (PySem.W.fnOf "read_line" "read_line" (C8.fnArgs (top 31)) (C8.fnBody (top 31)) (C8.fnScope (top 31)) .none kV31 dc31 pm31 an31 cd31 ct31), sl31⟩)
    (c31 : PySem.W.codeIn K cd31 "read_line" = true)
    (k31 : PySem.W.keepIn K (.ref f31) = true)
    (a32 : PySem.W.nsIn K mainGlobals "can_stand" = some (some (.ref f32)))
    (l32 : K.lookup f32 = some ⟨oc32, od32, .func (PySem.W.fnOf "can_stand" "can_stand" (C8.fnArgs (top 32)) (C8.fnBody (top 32)) (C8.fnScope (top 32)) .none kV32 dc32 pm32 an32 cd32 ct32), sl32⟩)
    (c32 : PySem.W.codeIn K cd32 "can_stand" = true)
    (k32 : PySem.W.keepIn K (.ref f32) = true)
    (a38 : PySem.W.nsIn K mainGlobals "_law_pot" = some (some (.ref f38)))
    (l38 : K.lookup f38 = some ⟨oc38, od38, .func (PySem.W.fnOf "_law_pot" "_law_pot" (C8.fnArgs (top 38)) (C8.fnBody (top 38)) (C8.fnScope (top 38)) .none kV38 dc38 pm38 an38 cd38 ct38), sl38⟩)
    (c38 : PySem.W.codeIn K cd38 "_law_pot" = true)
    (k38 : PySem.W.keepIn K (.ref f38) = true)
    (a39 : PySem.W.nsIn K mainGlobals "_law_take" = some (some (.ref f39)))
    (l39 : K.lookup f39 = some ⟨oc39, od39, .func (PySem.W.fnOf "_law_take" "_law_take" (C8.fnArgs (top 39)) (C8.fnBody (top 39)) (C8.fnScope (top 39)) .none kV39 dc39 pm39 an39 cd39 ct39), sl39⟩)
    (c39 : PySem.W.codeIn K cd39 "_law_take" = true)
    (k39 : PySem.W.keepIn K (.ref f39) = true)
    (a40 : PySem.W.nsIn K mainGlobals "_law_of" = some (some (.ref f40)))
    (l40 : K.lookup f40 = some ⟨oc40, od40, .func (PySem.W.fnOf "_law_of" "_law_of" (C8.fnArgs (top 40)) (C8.fnBody (top 40)) (C8.fnScope (top 40)) .none kV40 dc40 pm40 an40 cd40 ct40), sl40⟩)
    (c40 : PySem.W.codeIn K cd40 "_law_of" = true)
    (k40 : PySem.W.keepIn K (.ref f40) = true)
    (a41 : PySem.W.nsIn K mainGlobals "_law_some" = some (some (.ref f41)))
    (l41 : K.lookup f41 = some ⟨oc41, od41, .func (PySem.W.fnOf "_law_some" "_law_some" (C8.fnArgs (top 41)) (C8.fnBody (top 41)) (C8.fnScope (top 41)) .none kV41 dc41 pm41 an41 cd41 ct41), sl41⟩)
    (c41 : PySem.W.codeIn K cd41 "_law_some" = true)
    (k41 : PySem.W.keepIn K (.ref f41) = true)
    (a42 : PySem.W.nsIn K mainGlobals "_law_cells" = some (some (.ref f42)))
    (l42 : K.lookup f42 = some ⟨oc42, od42, .func (PySem.W.fnOf "_law_cells" "_law_cells" (C8.fnArgs (top 42)) (C8.fnBody (top 42)) (C8.fnScope (top 42)) .none kV42 dc42 pm42 an42 cd42 ct42), sl42⟩)
    (c42 : PySem.W.codeIn K cd42 "_law_cells" = true)
    (k42 : PySem.W.keepIn K (.ref f42) = true)
    (a44 : PySem.W.nsIn K mainGlobals "_law_drawn_kind" = some (some (.ref f44)))
    (l44 : K.lookup f44 = some ⟨oc44, od44, .func (PySem.W.fnOf "_law_drawn_kind" "_law_drawn_kind" (C8.fnArgs (top 44)) (C8.fnBody (top 44)) (C8.fnScope (top 44)) .none kV44 dc44 pm44 an44 cd44 ct44), sl44⟩)
    (c44 : PySem.W.codeIn K cd44 "_law_drawn_kind" = true)
    (k44 : PySem.W.keepIn K (.ref f44) = true)
    (a45 : PySem.W.nsIn K mainGlobals "_law_leaf" = some (some (.ref f45)))
    (l45 : K.lookup f45 = some ⟨oc45, od45, .func (PySem.W.fnOf "_law_leaf" "_law_leaf" (C8.fnArgs (top 45)) (C8.fnBody (top 45)) (C8.fnScope (top 45)) .none kV45 dc45 pm45 an45 cd45 ct45), sl45⟩)
    (c45 : PySem.W.codeIn K cd45 "_law_leaf" = true)
    (k45 : PySem.W.keepIn K (.ref f45) = true)
    (a46 : PySem.W.nsIn K mainGlobals "_law_fresh" = some (some (.ref f46)))
    (l46 : K.lookup f46 = some ⟨oc46, od46, .func (PySem.W.fnOf "_law_fresh" "_law_fresh" (C8.fnArgs (top 46)) (C8.fnBody (top 46)) (C8.fnScope (top 46)) .none kV46 dc46 pm46 an46 cd46 ct46), sl46⟩)
    (c46 : PySem.W.codeIn K cd46 "_law_fresh" = true)
    (k46 : PySem.W.keepIn K (.ref f46) = true)
    (a47 : PySem.W.nsIn K mainGlobals "_law_with" = some (some (.ref f47)))
    (l47 : K.lookup f47 = some ⟨oc47, od47, .func (PySem.W.fnOf "_law_with" "_law_with" (C8.fnArgs (top 47)) (C8.fnBody (top 47)) (C8.fnScope (top 47)) .none kV47 dc47 pm47 an47 cd47 ct47), sl47⟩)
    (c47 : PySem.W.codeIn K cd47 "_law_with" = true)
    (k47 : PySem.W.keepIn K (.ref f47) = true)
    (a48 : PySem.W.nsIn K mainGlobals "_law_expression" = some (some (.ref f48)))
    (l48 : K.lookup f48 = some ⟨oc48, od48, .func (PySem.W.fnOf "_law_expression" "_law_expression" (C8.fnArgs (top 48)) (C8.fnBody (top 48)) (C8.fnScope (top 48)) .none kV48 dc48 pm48 an48 cd48 ct48), sl48⟩)
    (c48 : PySem.W.codeIn K cd48 "_law_expression" = true)
    (k48 : PySem.W.keepIn K (.ref f48) = true)
    (a49 : PySem.W.nsIn K mainGlobals "_law_falling_part" = some (some (.ref f49)))
    (l49 : K.lookup f49 = some ⟨oc49, od49, .func (PySem.W.fnOf "_law_falling_part" "_law_falling_part" (C8.fnArgs (top 49)) (C8.fnBody (top 49)) (C8.fnScope (top 49)) .none kV49 dc49 pm49 an49 cd49 ct49), sl49⟩)
    (c49 : PySem.W.codeIn K cd49 "_law_falling_part" = true)
    (k49 : PySem.W.keepIn K (.ref f49) = true)
    (a50 : PySem.W.nsIn K mainGlobals "_law_drawn_program" = some (some (.ref f50)))
    (l50 : K.lookup f50 = some ⟨oc50, od50, .func (PySem.W.fnOf "_law_drawn_program" "_law_drawn_program" (C8.fnArgs (top 50)) (C8.fnBody (top 50)) (C8.fnScope (top 50)) .none kV50 dc50 pm50 an50 cd50 ct50), sl50⟩)
    (c50 : PySem.W.codeIn K cd50 "_law_drawn_program" = true)
    (k50 : PySem.W.keepIn K (.ref f50) = true)
    (a51 : PySem.W.nsIn K mainGlobals "_law_held_calls" = some (some (.ref f51)))
    (l51 : K.lookup f51 = some ⟨oc51, od51, .func (PySem.W.fnOf "_law_held_calls" "_law_held_calls" (C8.fnArgs (top 51)) (C8.fnBody (top 51)) (C8.fnScope (top 51)) .none kV51 dc51 pm51 an51 cd51 ct51), sl51⟩)
    (c51 : PySem.W.codeIn K cd51 "_law_held_calls" = true)
    (k51 : PySem.W.keepIn K (.ref f51) = true)
    (a52 : PySem.W.nsIn K mainGlobals "_law_filled" = some (some (.ref f52)))
    (l52 : K.lookup f52 = some ⟨oc52, od52, .func (PySem.W.fnOf "_law_filled" "_law_filled" (C8.fnArgs (top 52)) (C8.fnBody (top 52)) (C8.fnScope (top 52)) .none kV52 dc52 pm52 an52 cd52 ct52), sl52⟩)
    (c52 : PySem.W.codeIn K cd52 "_law_filled" = true)
    (k52 : PySem.W.keepIn K (.ref f52) = true)
    (a53 : PySem.W.nsIn K mainGlobals "_law_program_text" = some (some (.ref f53)))
    (l53 : K.lookup f53 = some ⟨oc53, od53, .func (PySem.W.fnOf "_law_program_text" "_law_program_text" (C8.fnArgs (top 53)) (C8.fnBody (top 53)) (C8.fnScope (top 53)) .none kV53 dc53 pm53 an53 cd53 ct53), sl53⟩)
    (c53 : PySem.W.codeIn K cd53 "_law_program_text" = true)
    (k53 : PySem.W.keepIn K (.ref f53) = true)
    (a54 : PySem.W.nsIn K mainGlobals "_law_leaves_of" = some (some (.ref f54)))
    (l54 : K.lookup f54 = some ⟨oc54, od54, .func (PySem.W.fnOf "_law_leaves_of" "_law_leaves_of" (C8.fnArgs (top 54)) (C8.fnBody (top 54)) (C8.fnScope (top 54)) .none kV54 dc54 pm54 an54 cd54 ct54), sl54⟩)
    (c54 : PySem.W.codeIn K cd54 "_law_leaves_of" = true)
    (k54 : PySem.W.keepIn K (.ref f54) = true)
    (a55 : PySem.W.nsIn K mainGlobals "_law_spoilt_line" = some (some (.ref f55)))
    (l55 : K.lookup f55 = some ⟨oc55, od55, .func (PySem.W.fnOf "_law_spoilt_line" "_law_spoilt_line" (C8.fnArgs (top 55)) (C8.fnBody (top 55)) (C8.fnScope (top 55)) .none kV55 dc55 pm55 an55 cd55 ct55), sl55⟩)
    (c55 : PySem.W.codeIn K cd55 "_law_spoilt_line" = true)
    (k55 : PySem.W.keepIn K (.ref f55) = true)
    (a43 : PySem.W.nsIn K mainGlobals "_law_caught" = some (some (.ref f43)))
    (l43 : K.lookup f43 = some ⟨oc43, od43, .func (PySem.W.fnOf "_law_caught" "_law_caught" (C8.fnArgs (top 43)) (C8.fnBody (top 43)) (C8.fnScope (top 43)) .none kV43 dc43 pm43 an43 cd43 ct43), sl43⟩)
    (c43 : PySem.W.codeIn K cd43 "_law_caught" = true)
    (k43 : PySem.W.keepIn K (.ref f43) = true)
    (a56 : PySem.W.nsIn K mainGlobals "_law_is_refused_at" = some (some (.ref f56)))
    (l56 : K.lookup f56 = some ⟨oc56, od56, .func (PySem.W.fnOf "_law_is_refused_at" "_law_is_refused_at" (C8.fnArgs (top 56)) (C8.fnBody (top 56)) (C8.fnScope (top 56)) .none kV56 dc56 pm56 an56 (.ref c) ct56), sl56⟩)
    (c56 : PySem.W.codeIn K (.ref c) "_law_is_refused_at" = true)
    (k56 : PySem.W.keepIn K (.ref f56) = true)
    (a57 : PySem.W.nsIn K mainGlobals "_law_right" = some (some (.ref f57)))
    (l57 : K.lookup f57 = some ⟨oc57, od57, .func (PySem.W.fnOf "_law_right" "_law_right" (C8.fnArgs (top 57)) (C8.fnBody (top 57)) (C8.fnScope (top 57)) .none kV57 dc57 pm57 an57 cd57 ct57), sl57⟩)
    (c57 : PySem.W.codeIn K cd57 "_law_right" = true)
    (k57 : PySem.W.keepIn K (.ref f57) = true)
    (a58 : PySem.W.nsIn K mainGlobals "law" = some (some (.ref f58)))
    (l58 : K.lookup f58 = some ⟨oc58, od58, .func (PySem.W.fnOf "law" "law" (C8.fnArgs (top 58)) (C8.fnBody (top 58)) (C8.fnScope (top 58)) .none kV58 dc58 pm58 an58 cd58 ct58), sl58⟩)
    (c58 : PySem.W.codeIn K cd58 "law" = true)
    (ACe : PySem.W.nsIn K mainGlobals "UseError" = some (some (.ref Ce)))
    (me : PySem.W.findIn K (.ref Ce) "__init__" = some (some (.ref fe)))
    (le : K.lookup fe = some ⟨oce, ode, .func (PySem.W.fnOf "__init__" "UseError.__init__" (C8.fnArgs sErr) (C8.fnBody sErr) (C8.fnScope sErr) .none kVe dce pme ane cde cte), sle⟩)
    (ce : PySem.W.codeIn K cde "UseError.__init__" = true)
    (ie : PySem.W.isFn K (.ref fe) = true)
    (ACn : PySem.W.nsIn K mainGlobals "Node" = some (some (.ref Cn)))
    (mn : PySem.W.findIn K (.ref Cn) "__init__" = some (some (.ref fn)))
    (ln : K.lookup fn = some ⟨ocn, odn, .func (PySem.W.fnOf "__init__" "Node.__init__" (C8.fnArgs sNode) (C8.fnBody sNode) (C8.fnScope sNode) .none kVn dcn pmn ann cdn ctn), sln⟩)
    (cn : PySem.W.codeIn K cdn "Node.__init__" = true)
    (in_ : PySem.W.isFn K (.ref fn) = true)
    (pgtCn : PySem.W.plainGet K Cn Str.empty = true)
    (hdCn : PySem.W.hasDictIn K Cn = true)
    (poCn : PySem.W.plainOver K Cn = true)
    (saCn : PySem.W.findIn K (.ref Cn) "__setattr__" = some (some (.builtin "object.__setattr__")))
    (mkCn : PySem.W.makesIn K Cn = true)
    (kpCn : PySem.W.keepIn K (.ref Cn) = true)
    (nCn0 : PySem.W.findIn K (.ref Cn) "place" = some none)
    (nCn1 : PySem.W.findIn K (.ref Cn) "sign" = some none)
    (nCn2 : PySem.W.findIn K (.ref Cn) "kind" = some none)
    (nCn3 : PySem.W.findIn K (.ref Cn) "named" = some none)
    (nCn4 : PySem.W.findIn K (.ref Cn) "outer" = some none)
    (nCn5 : PySem.W.findIn K (.ref Cn) "within" = some none)
    (nCn6 : PySem.W.findIn K (.ref Cn) "binder" = some none)
    (nCn7 : PySem.W.findIn K (.ref Cn) "level" = some none)
    (mroCn : PySem.W.mroIn K Cn (.type "object") = some true)
    (eqCn : PySem.W.findIn K (.ref Cn) "__eq__" = some (some (.builtin "object.__eq__")))
    (ACl : PySem.W.nsIn K mainGlobals "Line" = some (some (.ref Cl)))
    (ml : PySem.W.findIn K (.ref Cl) "__init__" = some (some (.ref fl)))
    (ll : K.lookup fl = some ⟨ocl, odl, .func (PySem.W.fnOf "__init__" "Line.__init__" (C8.fnArgs sLine) (C8.fnBody sLine) (C8.fnScope sLine) .none kVl dcl pml anl cdl ctl), sll⟩)
    (cl : PySem.W.codeIn K cdl "Line.__init__" = true)
    (il : PySem.W.isFn K (.ref fl) = true)
    (pgtCl : PySem.W.plainGet K Cl Str.empty = true)
    (hdCl : PySem.W.hasDictIn K Cl = true)
    (poCl : PySem.W.plainOver K Cl = true)
    (saCl : PySem.W.findIn K (.ref Cl) "__setattr__" = some (some (.builtin "object.__setattr__")))
    (mkCl : PySem.W.makesIn K Cl = true)
    (kpCl : PySem.W.keepIn K (.ref Cl) = true)
    (nCl0 : PySem.W.findIn K (.ref Cl) "name" = some none)
    (nCl1 : PySem.W.findIn K (.ref Cl) "told" = some none)
    (nCl2 : PySem.W.findIn K (.ref Cl) "nodes" = some none)
    (nCl3 : PySem.W.findIn K (.ref Cl) "names" = some none)
    (ACg : PySem.W.nsIn K mainGlobals "Program" = some (some (.ref Cg)))
    (mg_ : PySem.W.findIn K (.ref Cg) "__init__" = some (some (.ref fg)))
    (lg : K.lookup fg = some ⟨ocg, odg, .func (PySem.W.fnOf "__init__" "Program.__init__" (C8.fnArgs sProg) (C8.fnBody sProg) (C8.fnScope sProg) .none kVg dcg pmg ang cdg ctg), slg⟩)
    (cg : PySem.W.codeIn K cdg "Program.__init__" = true)
    (ig : PySem.W.isFn K (.ref fg) = true)
    (pgtCg : PySem.W.plainGet K Cg Str.empty = true)
    (hdCg : PySem.W.hasDictIn K Cg = true)
    (poCg : PySem.W.plainOver K Cg = true)
    (saCg : PySem.W.findIn K (.ref Cg) "__setattr__" = some (some (.builtin "object.__setattr__")))
    (mkCg : PySem.W.makesIn K Cg = true)
    (kpCg : PySem.W.keepIn K (.ref Cg) = true)
    (nCg0 : PySem.W.findIn K (.ref Cg) "_text" = some none)
    (nCg1 : PySem.W.findIn K (.ref Cg) "_lines" = some none)
    (nCg2 : PySem.W.findIn K (.ref Cg) "_parts" = some none)
    (nCg3 : PySem.W.findIn K (.ref Cg) "nodes" = some none)
    (nCg4 : PySem.W.findIn K (.ref Cg) "_places" = some none)
    (nCg5 : PySem.W.findIn K (.ref Cg) "_bindings" = some none)
    (papt : PySem.W.findIn K (.ref Cg) "text" = some (some (.ref ppt)))
    (pgpt : PySem.W.specialIn K (.ref ppt) "__get__" = some (some (.builtin "property.__get__")))
    (ptpt : PySem.W.takesIn K (.ref ppt) = some true)
    (prpt : PySem.W.recIn K ppt "property" = some (.ref fpt :: restpt))
    (lpt : K.lookup fpt = some ⟨ocpt, odpt, .func (PySem.W.fnOf "text" "Program.text" (C8.fnArgs sTxG) (C8.fnBody sTxG) (C8.fnScope sTxG) .none kVpt dcpt pmpt anpt cdpt ctpt), slpt⟩)
    (cpt : PySem.W.codeIn K cdpt "Program.text" = true)
    (papp : PySem.W.findIn K (.ref Cg) "parts" = some (some (.ref ppp)))
    (pgpp : PySem.W.specialIn K (.ref ppp) "__get__" = some (some (.builtin "property.__get__")))
    (ptpp : PySem.W.takesIn K (.ref ppp) = some true)
    (prpp : PySem.W.recIn K ppp "property" = some (.ref fpp :: restpp))
    (lpp : K.lookup fpp = some ⟨ocpp, odpp, .func (PySem.W.fnOf "parts" "Program.parts" (C8.fnArgs sPtG) (C8.fnBody sPtG) (C8.fnScope sPtG) .none kVpp dcpp pmpp anpp cdpp ctpp), slpp⟩)
    (cpp : PySem.W.codeIn K cdpp "Program.parts" = true)
    (mq : PySem.W.findIn K (.ref Cg) "__eq__" = some (some (.ref fq)))
    (lq : K.lookup fq = some ⟨ocq, odq, .func (PySem.W.fnOf "__eq__" "Program.__eq__" (C8.fnArgs sEqX) (C8.fnBody sEqX) (C8.fnScope sEqX) .none kVq dcq pmq anq cdq ctq), slq⟩)
    (cq : PySem.W.codeIn K cdq "Program.__eq__" = true)
    (iq : PySem.W.isFn K (.ref fq) = true)
    (neCg : PySem.W.findIn K (.ref Cg) "__ne__" = some (some (.builtin "object.__ne__")))
    (clCg : PySem.W.findIn K (.ref Cg) "__class__" = some (some (.builtin "object.__class__")))
    (mroCg : PySem.W.mroIn K Cg (.type "object") = some true)
    (isCg : PySem.W.isClsIn K Cg = true)
    (tyCg : PySem.W.typeIn K (.ref Cg) = some (.type "type"))
    (nfstr : PySem.W.notFirst K Cg (.type "str") = true)
    (nfint : PySem.W.notFirst K Cg (.type "int") = true)
    (nfNoneType : PySem.W.notFirst K Cg (.type "NoneType") = true)
    (nftuple : PySem.W.notFirst K Cg (.type "tuple") = true)
    (spO : PySem.W.specialIn K (.builtin "object.__class__") "__get__" = some (some (.builtin "getset_descriptor.__get__")))
    (tkO : PySem.W.takesIn K (.builtin "object.__class__") = some true)
    (ACB : PySem.W.nsIn K mainGlobals "BadProgram" = some (some (.ref CB)))
    (lkCB : K.lookup CB = some (excClassObj nmCB qCB CB NCB bsCB bmCB true snCB subCB abCB colCB ddCB k0CB k1CB k2CB k3CB k5CB "ValueError.__new__"))
    (rvCB : PySem.HandSPX.refsVE bmCB = true)
    (saCB : PySem.W.findIn K (.ref CB) "__setattr__" = some (some (.builtin "object.__setattr__")))
    (exCB : PySem.W.subIn K (.ref CB) (.type "BaseException") = some true)
    (tyCB : PySem.W.typeIn K (.ref CB) = some (.type "type"))
    (kpCB : PySem.W.keepIn K (.ref CB) = true)
    (inCB : PySem.W.findIn K (.ref CB) "__init__" = some (some (.ref fe)))
    (nvCB : PySem.W.findIn K (.ref CB) "value" = some none)
    (tye : PySem.W.typeIn K (.ref fe) = some (.type "function"))
    (isCe : PySem.W.isClsIn K Ce = true)
    (tyCe : PySem.W.typeIn K (.ref Ce) = some (.type "type"))
    (bCe : PySem.W.subIn K (.ref Ce) (.type "BaseException") = some true)
    (sCB : PySem.W.subIn K (.ref CB) (.ref Ce) = some true)
    (gaCB : PySem.W.findIn K (.ref CB) "__getattribute__" = some (some (.builtin "BaseException.__getattribute__")))
    (ggCB : PySem.W.findIn K (.ref CB) "__getattr__" = some none)
    (hdCB : PySem.W.hasDictIn K CB = true)
    (clCB : PySem.W.findIn K (.ref CB) "__class__" = some (some (.builtin "object.__class__")))
    (mrCB : PySem.W.mroIn K CB (.type "object") = some true)
    (z_type : PySem.W.nsIn K mainGlobals "type" = some none)
    (z_str : PySem.W.nsIn K mainGlobals "str" = some none)
    (z_len : PySem.W.nsIn K mainGlobals "len" = some none)
    (z_all : PySem.W.nsIn K mainGlobals "all" = some none)
    (z_any : PySem.W.nsIn K mainGlobals "any" = some none)
    (z_int : PySem.W.nsIn K mainGlobals "int" = some none)
    (z_enumerate : PySem.W.nsIn K mainGlobals "enumerate" = some none)
    (z_tuple : PySem.W.nsIn K mainGlobals "tuple" = some none)
    (z_list : PySem.W.nsIn K mainGlobals "list" = some none)
    (z_isinstance : PySem.W.nsIn K mainGlobals "isinstance" = some none)
    (z_sum : PySem.W.nsIn K mainGlobals "sum" = some none)
    (z_abs : PySem.W.nsIn K mainGlobals "abs" = some none)
    (z_repr : PySem.W.nsIn K mainGlobals "repr" = some none)
    (z_max : PySem.W.nsIn K mainGlobals "max" = some none)
    (z_min : PySem.W.nsIn K mainGlobals "min" = some none)
    (z_range : PySem.W.nsIn K mainGlobals "range" = some none)
    (z_sorted : PySem.W.nsIn K mainGlobals "sorted" = some none)
    (aLE : PySem.W.nsIn K mainGlobals "LETTERS" = some (some (.str zLE tLE)))
    (eLE : zLE = S LET)
    (aFI : PySem.W.nsIn K mainGlobals "FIGURES" = some (some (.str zFI tFI)))
    (eFI : zFI = S FIG)
    (aDE : PySem.W.nsIn K mainGlobals "DEEPEST" = some (some (.int 30 tDE)))
    (aMW : PySem.W.nsIn K mainGlobals "MOST_WORDS" = some (some (.int 120 tMW)))
    (aMP : PySem.W.nsIn K mainGlobals "MOST_PARTS" = some (some (.int 12 tMP)))
    (aBI : PySem.W.nsIn K mainGlobals "BINDERS" = some (some (.ref pBI)))
    (lBI : K.lookup pBI = some ⟨.type "tuple", oBI, .seq itsBI mBI, sBI⟩)
    (zBI : itsBI.size ≤ 100)
    (vBI : Vals [.str (S [102, 117, 110]), .str (S [108, 101, 116])] itsBI.toList)
    (aLW : PySem.W.nsIn K mainGlobals "LINE_WORDS" = some (some (.ref pLW)))
    (lLW : K.lookup pLW = some ⟨.type "tuple", oLW, .seq itsLW mLW, sLW⟩)
    (zLW : itsLW.size ≤ 100)
    (vLW : Vals [.str (S [112, 97, 114, 116]), .str (S [114, 117, 110])] itsLW.toList)
    (aBW : PySem.W.nsIn K mainGlobals "BINDING_WORDS" = some (some (.ref pBW)))
    (lBW : K.lookup pBW = some ⟨.type "tuple", oBW, .seq itsBW mBW, sBW⟩)
    (zBW : itsBW.size ≤ 100)
    (vBW : Vals [.str (S [99, 97, 108, 108]), .str (S [108, 101, 116]), .str (S [112, 97, 105, 114])] itsBW.toList)
    (aAR : PySem.W.nsIn K mainGlobals "ARITIES" = some (some (.ref pAR)))
    (lAR : K.lookup pAR = some ⟨.type "dict", none, .dict esAR mAR, #[]⟩)
    (vAR : PySem.W.KeysLit w.params esAR.toList)
    (sAR : (pAR == sysModules) = false)
    (eAR : entsOf w.params ARI esAR.toList)
    (lcd : K.lookup c = some ⟨.type "code", odc, .fields vsc, slc⟩)
    (v11 : vsc[11]? = some (.ref Pt))
    (v11b : vsc.getD 11 .none = .ref Pt)
    (v18 : vsc.getD 18 .none = .str filec tfc)
    (v7 : vsc.getD 7 .none = .int flagsc tgc)
    (v9 : vsc.getD 9 .none = .bool inFc)
    (v10 : vsc.getD 10 .none = .int textc ttc)
    (ncP : c ≠ Pt)
    (nP : K.lookup Pt = none)
    (hP : h.get? Pt = some { cls := .none, data := .fields #[] }) :
    Xg.LawAtG l w K C8.CX0 23 63 "script" mg fa h := by
  have e := hfa.symm.trans (PySem.W.mg_of X G a58)
  cases e
  have T : Txt5 K w mg :=
    { type_ := (PySem.W.mg_none_of X G z_type), str_ := (PySem.W.mg_none_of X G z_str), len_ := (PySem.W.mg_none_of X G z_len), all_ := (PySem.W.mg_none_of X G z_all), any_ := (PySem.W.mg_none_of X G z_any), int_ := (PySem.W.mg_none_of X G z_int), enum_ := (PySem.W.mg_none_of X G z_enumerate), tuple_ := (PySem.W.mg_none_of X G z_tuple), list_ := (PySem.W.mg_none_of X G z_list), isi_ := (PySem.W.mg_none_of X G z_isinstance), sum_ := (PySem.W.mg_none_of X G z_sum), abs_ := (PySem.W.mg_none_of X G z_abs), repr_ := (PySem.W.mg_none_of X G z_repr), max_ := (PySem.W.mg_none_of X G z_max), min_ := (PySem.W.mg_none_of X G z_min), range_ := (PySem.W.mg_none_of X G z_range), sorted_ := (PySem.W.mg_none_of X G z_sorted),
      let_ := ⟨_, PySem.W.mg_of X G aLE, by rw [eLE]; exact ⟨_, rfl⟩⟩, fig_ := ⟨_, PySem.W.mg_of X G aFI, by rw [eFI]; exact ⟨_, rfl⟩⟩,
      ari_ := ⟨pAR, PySem.W.mg_of X G aAR, esAR, mAR, lAR, vAR, sAR, ari_rel eAR⟩,
      lwords := ⟨pLW, PySem.W.mg_of X G aLW, fun H => .inr ⟨_, _, _, lLW, rfl, rfl, by rw [sizeLine_eq]; omega, vLW⟩⟩,
      binders := ⟨pBI, PySem.W.mg_of X G aBI, fun H => .inr ⟨_, _, _, lBI, rfl, rfl, by rw [sizeLine_eq]; omega, vBI⟩⟩,
      deep := ⟨_, PySem.W.mg_of X G aDE⟩, mostW := ⟨_, PySem.W.mg_of X G aMW⟩, mostP := ⟨_, PySem.W.mg_of X G aMP⟩,
      bwords := ⟨pBW, PySem.W.mg_of X G aBW, fun H => .inr ⟨_, _, _, lBW, rfl, rfl, by rw [sizeLine_eq]; omega, vBW⟩⟩ }
  have U : NumC K mg Ce CB := ⟨(PySem.W.mg_of X G ACe), (PySem.W.mg_of X G ACB), exm_mk isCe tyCe bCe sCB, kit_same, ⟨gaCB, ggCB, exCB, hdCB, clCB, spO, tkO, mrCB⟩, ⟨gaCB, ggCB, exCB, hdCB⟩, nvCB⟩
  have N : NodeC K mg Cn := ⟨⟨pgtCn, hdCn, poCn, saCn⟩, (PySem.W.mg_of X G ACn), nCn0, nCn1, nCn2, nCn3, nCn4, nCn5, nCn6, nCn7, ⟨mroCn, eqCn⟩⟩
  have L : LineC K mg Cl := ⟨⟨pgtCl, hdCl, poCl, saCl⟩, (PySem.W.mg_of X G ACl), nCl0, nCl1, nCl2, nCl3⟩
  have GP : ProgC K mg Cg := ⟨⟨pgtCg, hdCg, poCg, saCg⟩, (PySem.W.mg_of X G ACg), nCg0, nCg1, nCg2, nCg3, nCg4, nCg5⟩
  have IS : IsC K Cg := ⟨clCg, spO, tkO, mroCg⟩
  have NC : NotC K Cg := ⟨nfstr, nfint, nfNoneType, nftuple, kit_str isCg tyCg, kit_int isCg tyCg, kit_NoneType isCg tyCg, kit_tuple isCg tyCg⟩
  have XCB : ErrC K mg "BadProgram" CB fe := ⟨(PySem.W.mg_of X G ACB), ⟨⟨nmCB, qCB, NCB, bsCB, bmCB, snCB, subCB, abCB, colCB, ddCB, k0CB, k1CB, k2CB, k3CB, k5CB, lkCB, rvCB⟩, saCB, exCB, tyCB, kpCB⟩, inCB, tye, nvCB⟩
  have d9 : C8.Def K mg "is_text" (top 9) f9 _ := ⟨⟨_, _, _, _, _, _, _, _, _, _, rfl, l9, c9⟩, (PySem.W.mg_of X G a9), k9⟩
  have b9 := d9.fn.binds (ps := ["value"]) (K := K) rfl fun _ _ _ _ _ _ us hl => match us, hl with | [_], _ => rfl
  have d12 : C8.Def K mg "is_name" (top 12) f12 _ := ⟨⟨_, _, _, _, _, _, _, _, _, _, rfl, l12, c12⟩, (PySem.W.mg_of X G a12), k12⟩
  have b12 := d12.fn.binds (ps := ["word"]) (K := K) rfl fun _ _ _ _ _ _ us hl => match us, hl with | [_], _ => rfl
  have d13 : C8.Def K mg "integer_of" (top 13) f13 _ := ⟨⟨_, _, _, _, _, _, _, _, _, _, rfl, l13, c13⟩, (PySem.W.mg_of X G a13), k13⟩
  have b13 := d13.fn.binds (ps := ["word"]) (K := K) rfl fun _ _ _ _ _ _ us hl => match us, hl with | [_], _ => rfl
  have d20 : C8.Def K mg "is_free" (top 20) f20 _ := ⟨⟨_, _, _, _, _, _, _, _, _, _, rfl, l20, c20⟩, (PySem.W.mg_of X G a20), k20⟩
  have b20 := d20.fn.binds (ps := ["word"]) (K := K) rfl fun _ _ _ _ _ _ us hl => match us, hl with | [_], _ => rfl
  have d21 : C8.Def K mg "read_expression" (top 21) f21 _ := ⟨⟨_, _, _, _, _, _, _, _, _, _, rfl, l21, c21⟩, (PySem.W.mg_of X G a21), k21⟩
  have b21 := d21.fn.binds (ps := ["name", "words", "start"]) (K := K) rfl fun _ _ _ _ _ _ us hl => match us, hl with | [_, _, _], _ => rfl
  have d22 : C8.Def K mg "read_node" (top 22) f22 _ := ⟨⟨_, _, _, _, _, _, _, _, _, _, rfl, l22, c22⟩, (PySem.W.mg_of X G a22), k22⟩
  have b22 := d22.fn.binds (ps := ["place", "words", "outer"]) (K := K) rfl fun _ _ _ _ _ _ us hl => match us, hl with | [_, _, _], _ => rfl
  have d23 : C8.Def K mg "is_written" (top 23) f23 _ := ⟨⟨_, _, _, _, _, _, _, _, _, _, rfl, l23, c23⟩, (PySem.W.mg_of X G a23), k23⟩
  have b23 := d23.fn.binds (ps := ["word"]) (K := K) rfl fun _ _ _ _ _ _ us hl => match us, hl with | [_], _ => rfl
  have d24 : C8.Def K mg "hang" (top 24) f24 _ := ⟨⟨_, _, _, _, _, _, _, _, _, _, rfl, l24, c24⟩, (PySem.W.mg_of X G a24), k24⟩
  have b24 := d24.fn.binds (ps := ["node", "waiting"]) (K := K) rfl fun _ _ _ _ _ _ us hl => match us, hl with | [_, _], _ => rfl
  have d25 : C8.Def K mg "bind" (top 25) f25 _ := ⟨⟨_, _, _, _, _, _, _, _, _, _, rfl, l25, c25⟩, (PySem.W.mg_of X G a25), k25⟩
  have b25 := d25.fn.binds (ps := ["node"]) (K := K) rfl fun _ _ _ _ _ _ us hl => match us, hl with | [_], _ => rfl
  have d30 : C8.Def K mg "read_program" (top 30) f30 _ := ⟨⟨_, _, _, _, _, _, _, _, _, _, rfl, l30, c30⟩, (PySem.W.mg_of X G a30), k30⟩
  have b30 := d30.fn.binds (ps := ["text"]) (K := K) rfl fun _ _ _ _ _ _ us hl => match us, hl with | [_], _ => rfl
  have d31 : C8.Def K mg "read_line" (top 31) f31 _ := ⟨⟨_, _, _, _, _, _, _, _, _, _, rfl, l31, c31⟩, (PySem.W.mg_of X G a31), k31⟩
  have b31 := d31.fn.binds (ps := ["told"]) (K := K) rfl fun _ _ _ _ _ _ us hl => match us, hl with | [_], _ => rfl
  have d32 : C8.Def K mg "can_stand" (top 32) f32 _ := ⟨⟨_, _, _, _, _, _, _, _, _, _, rfl, l32, c32⟩, (PySem.W.mg_of X G a32), k32⟩
  have b32 := d32.fn.binds (ps := ["line", "ahead"]) (K := K) rfl fun _ _ _ _ _ _ us hl => match us, hl with | [_, _], _ => rfl
  have d38 : C8.Def K mg "_law_pot" (top 38) f38 _ := ⟨⟨_, _, _, _, _, _, _, _, _, _, rfl, l38, c38⟩, (PySem.W.mg_of X G a38), k38⟩
  have b38 := d38.fn.binds (ps := ["script", "place"]) (K := K) rfl fun _ _ _ _ _ _ us hl => match us, hl with | [_, _], _ => rfl
  have d39 : C8.Def K mg "_law_take" (top 39) f39 _ := ⟨⟨_, _, _, _, _, _, _, _, _, _, rfl, l39, c39⟩, (PySem.W.mg_of X G a39), k39⟩
  have b39 := d39.fn.binds (ps := ["pot", "upto"]) (K := K) rfl fun _ _ _ _ _ _ us hl => match us, hl with | [_, _], _ => rfl
  have d40 : C8.Def K mg "_law_of" (top 40) f40 _ := ⟨⟨_, _, _, _, _, _, _, _, _, _, rfl, l40, c40⟩, (PySem.W.mg_of X G a40), k40⟩
  have b40 := d40.fn.binds (ps := ["pot", "some"]) (K := K) rfl fun _ _ _ _ _ _ us hl => match us, hl with | [_, _], _ => rfl
  have d41 : C8.Def K mg "_law_some" (top 41) f41 _ := ⟨⟨_, _, _, _, _, _, _, _, _, _, rfl, l41, c41⟩, (PySem.W.mg_of X G a41), k41⟩
  have b41 := d41.fn.binds (ps := ["pot", "pool", "many"]) (K := K) rfl fun _ _ _ _ _ _ us hl => match us, hl with | [_, _, _], _ => rfl
  have d42 : C8.Def K mg "_law_cells" (top 42) f42 _ := ⟨⟨_, _, _, _, _, _, _, _, _, _, rfl, l42, c42⟩, (PySem.W.mg_of X G a42), k42⟩
  have b42 := d42.fn.binds (ps := ["script", "limit"]) (K := K) rfl fun _ _ _ _ _ _ us hl => match us, hl with | [_, _], _ => rfl
  have d44 : C8.Def K mg "_law_drawn_kind" (top 44) f44 _ := ⟨⟨_, _, _, _, _, _, _, _, _, _, rfl, l44, c44⟩, (PySem.W.mg_of X G a44), k44⟩
  have b44 := d44.fn.binds (ps := ["pot", "deep"]) (K := K) rfl fun _ _ _ _ _ _ us hl => match us, hl with | [_, _], _ => rfl
  have d45 : C8.Def K mg "_law_leaf" (top 45) f45 _ := ⟨⟨_, _, _, _, _, _, _, _, _, _, rfl, l45, c45⟩, (PySem.W.mg_of X G a45), k45⟩
  have b45 := d45.fn.binds (ps := ["pot", "kind", "names", "parts"]) (K := K) rfl fun _ _ _ _ _ _ us hl => match us, hl with | [_, _, _, _], _ => rfl
  have d46 : C8.Def K mg "_law_fresh" (top 46) f46 _ := ⟨⟨_, _, _, _, _, _, _, _, _, _, rfl, l46, c46⟩, (PySem.W.mg_of X G a46), k46⟩
  have b46 := d46.fn.binds (ps := ["pot"]) (K := K) rfl fun _ _ _ _ _ _ us hl => match us, hl with | [_], _ => rfl
  have d47 : C8.Def K mg "_law_with" (top 47) f47 _ := ⟨⟨_, _, _, _, _, _, _, _, _, _, rfl, l47, c47⟩, (PySem.W.mg_of X G a47), k47⟩
  have b47 := d47.fn.binds (ps := ["names", "name", "kind"]) (K := K) rfl fun _ _ _ _ _ _ us hl => match us, hl with | [_, _, _], _ => rfl
  have d48 : C8.Def K mg "_law_expression" (top 48) f48 _ := ⟨⟨_, _, _, _, _, _, _, _, _, _, rfl, l48, c48⟩, (PySem.W.mg_of X G a48), k48⟩
  have b48 := d48.fn.binds (ps := ["pot", "kind", "names", "parts", "deep"]) (K := K) rfl fun _ _ _ _ _ _ us hl => match us, hl with | [_, _, _, _, _], _ => rfl
  have d49 : C8.Def K mg "_law_falling_part" (top 49) f49 _ := ⟨⟨_, _, _, _, _, _, _, _, _, _, rfl, l49, c49⟩, (PySem.W.mg_of X G a49), k49⟩
  have b49 := d49.fn.binds (ps := ["pot", "name", "kind", "parts"]) (K := K) rfl fun _ _ _ _ _ _ us hl => match us, hl with | [_, _, _, _], _ => rfl
  have d50 : C8.Def K mg "_law_drawn_program" (top 50) f50 _ := ⟨⟨_, _, _, _, _, _, _, _, _, _, rfl, l50, c50⟩, (PySem.W.mg_of X G a50), k50⟩
  have b50 := d50.fn.binds (ps := ["pot", "many", "deep"]) (K := K) rfl fun _ _ _ _ _ _ us hl => match us, hl with | [_, _, _], _ => rfl
  have d51 : C8.Def K mg "_law_held_calls" (top 51) f51 _ := ⟨⟨_, _, _, _, _, _, _, _, _, _, rfl, l51, c51⟩, (PySem.W.mg_of X G a51), k51⟩
  have b51 := d51.fn.binds (ps := ["falling"]) (K := K) rfl fun _ _ _ _ _ _ us hl => match us, hl with | [_], _ => rfl
  have d52 : C8.Def K mg "_law_filled" (top 52) f52 _ := ⟨⟨_, _, _, _, _, _, _, _, _, _, rfl, l52, c52⟩, (PySem.W.mg_of X G a52), k52⟩
  have b52 := d52.fn.binds (ps := ["pot", "line"]) (K := K) rfl fun _ _ _ _ _ _ us hl => match us, hl with | [_, _], _ => rfl
  have d53 : C8.Def K mg "_law_program_text" (top 53) f53 _ := ⟨⟨_, _, _, _, _, _, _, _, _, _, rfl, l53, c53⟩, (PySem.W.mg_of X G a53), k53⟩
  have b53 := d53.fn.binds (ps := ["lines"]) (K := K) rfl fun _ _ _ _ _ _ us hl => match us, hl with | [_], _ => rfl
  have d54 : C8.Def K mg "_law_leaves_of" (top 54) f54 _ := ⟨⟨_, _, _, _, _, _, _, _, _, _, rfl, l54, c54⟩, (PySem.W.mg_of X G a54), k54⟩
  have b54 := d54.fn.binds (ps := ["words"]) (K := K) rfl fun _ _ _ _ _ _ us hl => match us, hl with | [_], _ => rfl
  have d55 : C8.Def K mg "_law_spoilt_line" (top 55) f55 _ := ⟨⟨_, _, _, _, _, _, _, _, _, _, rfl, l55, c55⟩, (PySem.W.mg_of X G a55), k55⟩
  have b55 := d55.fn.binds (ps := ["pot", "words"]) (K := K) rfl fun _ _ _ _ _ _ us hl => match us, hl with | [_, _], _ => rfl
  have d43 : C8.Fun K "_law_caught" "_law_caught" (top 43) f43 _ := ⟨_, _, _, _, _, _, _, _, _, _, rfl, l43, c43⟩
  have b43 := d43.binds (ps := ["call"]) (K := K) rfl fun _ _ _ _ _ _ us hl => match us, hl with | [_], _ => rfl
  have d56 : C8.Fun K "_law_is_refused_at" "_law_is_refused_at" (top 56) f56 _ := ⟨_, _, _, _, _, _, _, _, _, _, rfl, l56, c56⟩
  have b56 := d56.binds (ps := ["text", "number"]) (K := K) rfl fun _ _ _ _ _ _ us hl => match us, hl with | [_, _], _ => rfl
  have d57 : C8.Fun K "_law_right" "_law_right" (top 57) f57 _ := ⟨_, _, _, _, _, _, _, _, _, _, rfl, l57, c57⟩
  have b57 := d57.binds (ps := ["pot"]) (K := K) rfl fun _ _ _ _ _ _ us hl => match us, hl with | [_], _ => rfl
  have d58 : C8.Fun K "law" "law" (top 58) fa _ := ⟨_, _, _, _, _, _, _, _, _, _, rfl, l58, c58⟩
  have de : C8.Fun K "__init__" "UseError.__init__" sErr fe _ := ⟨_, _, _, _, _, _, _, _, _, _, rfl, le, ce⟩
  have be := de.binds (ps := ["self", "value"]) (K := K) rfl fun _ _ _ _ _ _ us hl => match us, hl with | [_, _], _ => rfl
  have dn : C8.Fun K "__init__" "Node.__init__" sNode fn _ := ⟨_, _, _, _, _, _, _, _, _, _, rfl, ln, cn⟩
  have bn := dn.binds (ps := ["self", "place", "sign", "outer"]) (K := K) rfl fun _ _ _ _ _ _ us hl => match us, hl with | [_, _, _, _], _ => rfl
  have dl : C8.Fun K "__init__" "Line.__init__" sLine fl _ := ⟨_, _, _, _, _, _, _, _, _, _, rfl, ll, cl⟩
  have bl := dl.binds (ps := ["self", "name", "told", "nodes"]) (K := K) rfl fun _ _ _ _ _ _ us hl => match us, hl with | [_, _, _, _], _ => rfl
  have dg : C8.Fun K "__init__" "Program.__init__" sProg fg _ := ⟨_, _, _, _, _, _, _, _, _, _, rfl, lg, cg⟩
  have bg := dg.binds (ps := ["self", "text"]) (K := K) rfl fun _ _ _ _ _ _ us hl => match us, hl with | [_, _], _ => rfl
  have dpt : C8.Fun K "text" "Program.text" sTxG fpt _ := ⟨_, _, _, _, _, _, _, _, _, _, rfl, lpt, cpt⟩
  have bpt := dpt.binds (ps := ["self"]) (K := K) rfl fun _ _ _ _ _ _ us hl => match us, hl with | [_], _ => rfl
  have dpp : C8.Fun K "parts" "Program.parts" sPtG fpp _ := ⟨_, _, _, _, _, _, _, _, _, _, rfl, lpp, cpp⟩
  have bpp := dpp.binds (ps := ["self"]) (K := K) rfl fun _ _ _ _ _ _ us hl => match us, hl with | [_], _ => rfl
  have dq : C8.Fun K "__eq__" "Program.__eq__" sEqX fq _ := ⟨_, _, _, _, _, _, _, _, _, _, rfl, lq, cq⟩
  have bq := dq.binds (ps := ["self", "other"]) (K := K) rfl fun _ _ _ _ _ _ us hl => match us, hl with | [_, _], _ => rfl
  have bgk := kbn_of (y := "text") dg rfl (fun _ _ _ _ _ _ _ _ => rfl)
  have T4 := T.toTxt4
  have T3 := T4.toTxt3
  have T2 := T3.toTxt2
  have T1 := T2.toTxt
  refine ⟨PySem.W.fnOf "law" "law" (C8.fnArgs (top 58)) (C8.fnBody (top 58)) (C8.fnScope (top 58)) .none kV58 dc58 pm58 an58 cd58 ct58, [(c, Pt)], spLaw K Pt, ⟨fun p hp => ?_, fun p hp => ?_, fun p hp => ?_⟩, fun s v => .of_eq rfl, fun H a ns hn _ hcs hS => ⟨a, ns, rfl, hS, hn, fun r hr => ?_, fun _ => rfl⟩, fun base KB GB hTB => ?_⟩
  · rw [List.mem_singleton.mp hp]; exact hP
  · rw [List.mem_singleton.mp hp]; exact nP
  · rw [List.mem_singleton.mp hp]
    exact ⟨_, vsc, filec, tfc, flagsc, tgc, inFc, textc, ttc, X _ _ lcd, rfl, rfl, v11, v11b, v18, v7, v9, v10, ncP⟩
  · rw [List.mem_singleton.mp hr]
    exact LamX.TabS.nil (hcs (c, Pt) (List.mem_singleton.mpr rfl))
  have cT := ok_is_text (P := l.prog) (w := w) (base := base) d9 b9 T1
  have cN := ok_is_name (P := l.prog) (w := w) (base := base) d12 b12 T1
  have cI := ok_integer_of (P := l.prog) (w := w) (base := base) d13 b13 T1
  have cF := ok_is_free d20 b20 T2 cN
  have cW := ok_is_written d23 b23 T1 cI
  have MN : Mk K Cn fn := ⟨mkCn, mn, in_, kpCn⟩
  have ML : Mk K Cl fl := ⟨mkCl, ml, il, kpCl⟩
  have MP : Mk K Cg fg := ⟨mkCg, mg_, ig, kpCg⟩
  have cM := ok_node (P := l.prog) (w := w) (base := base) dn N MN bn
  have cRd := ok_read d22 b22 T2 N cM cF cW
  have cH := ok_hang (P := l.prog) (w := w) (base := base) d24 b24 T2 N
  have cB := ok_bind (P := l.prog) (w := w) (base := base) d25 b25 T2 N
  have cE := ok_expr d21 b21 T2 N cRd cH cB
  have cL := ok_line (P := l.prog) (w := w) (base := base) dl L N ML bl
  have cRL := ok_read_line d31 b31 T2 cF cE cL
  have cC := ok_can (P := l.prog) (w := w) (base := base) (C := Cn) d32 b32 T2 L
  have FE := ok_err (P := l.prog) (w := w) (mg := mg) (base := base) de
  have FR := ok_read_program d30 b30 T2 N L XCB FE be cT cRL cC
  have FP := ok_programX dg T2 GP N L FR d30.mgf d30.kp b30
  have PPt : PropOf K Cg "text" ppt fpt := ⟨papt, pgpt, ptpt, _, prpt⟩
  have PPp : PropOf K Cg "parts" ppp fpp := ⟨papp, pgpp, ptpp, _, prpp⟩
  have FPt := ok_textG (P := l.prog) (w := w) (base := base) dpt GP
  have FPp := ok_partsG (P := l.prog) (w := w) (base := base) dpp GP
  have FQ := ok_eqX (P := l.prog) (w := w) (base := base) dq T1 T1.isi_ GP IS
  have cPot := ok_pot (P := l.prog) (w := w) (base := base) d38 b38 T3
  have cTk := ok_take (P := l.prog) (w := w) (base := base) d39 b39 T3
  have cO := ok_of d40 b40 T3 cTk
  have cSo := ok_some d41 b41 T cTk
  have cCe := ok_cells (P := l.prog) (w := w) (base := base) d42 b42 T
  have cK := ok_kind d44 b44 T3 cTk
  have cFr := ok_fresh d46 b46 T3 cO
  have cWi := ok_with (P := l.prog) (w := w) (base := base) d47 b47 T3
  have cLf := ok_leaf d45 b45 T3 cTk cO cFr cWi
  have cX := ok_express d48 b48 T3 cTk cO cFr cWi cK (cLf 10)
  have cFa := ok_fall d49 b49 T3 cO (cX 2)
  have cHe := ok_held (P := l.prog) (w := w) (base := base) d51 b51 T3
  have cFi := ok_filled d52 b52 T3 cO
  have cD := ok_drawnX d50 b50 T4 cTk cO cFr cWi (cK 2) cX cFa cHe cFi
  have cPx := ok_ptext (P := l.prog) (w := w) (base := base) d53 b53 T4
  have cLv := ok_leaves (P := l.prog) (w := w) (base := base) d54 b54 T
  have cSl := ok_spoilt d55 b55 T cTk cO cLv
  have FRf := ok_refused l56 c56 (hTB (c, Pt) (List.mem_singleton.mpr rfl)) l43 c43 (PySem.W.mg_of X G a43) k43 b43 T U GP MP FP bgk
  have cRf : C8.Cal l.prog w K mg base 11 "_law_is_refused_at" (spRef Pt) [] := ⟨⟨_, _, _, [], FRf, (PySem.W.mg_of X G a56), k56, b56, .nil⟩⟩
  have FRt := ok_right d57 T GP IS NC T1.any_ cTk cD cPx cSo cSl cRf MP FP bg bgk PPt FPt bpt PPp FPp bpp FQ mq iq bq neCg
  exact ok_law d58 T cCe cPot FRt (PySem.W.mg_of X G a57) k57 b57
end K5
open PySem PySem.W PyProof.Rows
set_option Elab.async false
set_option linter.all false
set_option maxRecDepth 100000 in
set_option maxHeartbeats 0 in
theorem PySem.Challenge.cw_uselots_k01_whole_texts_and_their_first_holds : PySem.Challenge.rw_uselots_k01_whole_texts_and_their_first.Holds := by
  w_on; o_law; k_head; (case hw => w_witness2)
  k_fill
  refine Xg.walk_ofG (l := PySem.Challenge.rw_uselots_k01_whole_texts_and_their_first) (n := 63) (k := 23) (x := "script") (CX := fun _ => C8.CX0) rfl (by decide) rfl ⟨rfl, by decide, by decide⟩ (fun w h Y => PySem.W.km_in_of Y) ?F (fun _ _ _ _ _ z => z)
  case F =>
    intro w mg fa h Y KX G hmg
    refine' K5.at_end KX G hmg ?k6a9 ?k6l9 ?k6c9 ?k6k9 ?k6a12 ?k6l12 ?k6c12 ?k6k12 ?k6a13 ?k6l13 ?k6c13 ?k6k13 ?k6a20 ?k6l20 ?k6c20 ?k6k20 ?k6a21 ?k6l21 ?k6c21 ?k6k21 ?k6a22 ?k6l22 ?k6c22 ?k6k22 ?k6a23 ?k6l23 ?k6c23 ?k6k23 ?k6a24 ?k6l24 ?k6c24 ?k6k24 ?k6a25 ?k6l25 ?k6c25 ?k6k25 ?k6a30 ?k6l30 ?k6c30 ?k6k30 ?k6a31 ?k6l31 ?k6c31 ?k6k31 ?k6a32 ?k6l32 ?k6c32 ?k6k32 ?k6a38 ?k6l38 ?k6c38 ?k6k38 ?k6a39 ?k6l39 ?k6c39 ?k6k39 ?k6a40 ?k6l40 ?k6c40 ?k6k40 ?k6a41 ?k6l41 ?k6c41 ?k6k41 ?k6a42 ?k6l42 ?k6c42 ?k6k42 ?k6a44 ?k6l44 ?k6c44 ?k6k44 ?k6a45 ?k6l45 ?k6c45 ?k6k45 ?k6a46 ?k6l46 ?k6c46 ?k6k46 ?k6a47 ?k6l47 ?k6c47 ?k6k47 ?k6a48 ?k6l48 ?k6c48 ?k6k48 ?k6a49 ?k6l49 ?k6c49 ?k6k49 ?k6a50 ?k6l50 ?k6c50 ?k6k50 ?k6a51 ?k6l51 ?k6c51 ?k6k51 ?k6a52 ?k6l52 ?k6c52 ?k6k52 ?k6a53 ?k6l53 ?k6c53 ?k6k53 ?k6a54 ?k6l54 ?k6c54 ?k6k54 ?k6a55 ?k6l55 ?k6c55 ?k6k55 ?k6a43 ?k6l43 ?k6c43 ?k6k43 ?k6a56 ?k6l56 ?k6c56 ?k6k56 ?k6a57 ?k6l57 ?k6c57 ?k6k57 ?k6a58 ?k6l58 ?k6c58 ?k6ACe ?k6me ?k6le ?k6ce ?k6ie ?k6ACn ?k6mn ?k6ln ?k6cn ?k6in_ ?k6pgtCn ?k6hdCn ?k6poCn ?k6saCn ?k6mkCn ?k6kpCn ?k6nCn0 ?k6nCn1 ?k6nCn2 ?k6nCn3 ?k6nCn4 ?k6nCn5 ?k6nCn6 ?k6nCn7 ?k6mroCn ?k6eqCn ?k6ACl ?k6ml ?k6ll ?k6cl ?k6il ?k6pgtCl ?k6hdCl ?k6poCl ?k6saCl ?k6mkCl ?k6kpCl ?k6nCl0 ?k6nCl1 ?k6nCl2 ?k6nCl3 ?k6ACg ?k6mg_ ?k6lg ?k6cg ?k6ig ?k6pgtCg ?k6hdCg ?k6poCg ?k6saCg ?k6mkCg ?k6kpCg ?k6nCg0 ?k6nCg1 ?k6nCg2 ?k6nCg3 ?k6nCg4 ?k6nCg5 ?k6papt ?k6pgpt ?k6ptpt ?k6prpt ?k6lpt ?k6cpt ?k6papp ?k6pgpp ?k6ptpp ?k6prpp ?k6lpp ?k6cpp ?k6mq ?k6lq ?k6cq ?k6iq ?k6neCg ?k6clCg ?k6mroCg ?k6isCg ?k6tyCg ?k6nfstr ?k6nfint ?k6nfNoneType ?k6nftuple ?k6spO ?k6tkO ?k6ACB ?k6lkCB ?k6rvCB ?k6saCB ?k6exCB ?k6tyCB ?k6kpCB ?k6inCB ?k6nvCB ?k6tye ?k6isCe ?k6tyCe ?k6bCe ?k6sCB ?k6gaCB ?k6ggCB ?k6hdCB ?k6clCB ?k6mrCB ?k6z_type ?k6z_str ?k6z_len ?k6z_all ?k6z_any ?k6z_int ?k6z_enumerate ?k6z_tuple ?k6z_list ?k6z_isinstance ?k6z_sum ?k6z_abs ?k6z_repr ?k6z_max ?k6z_min ?k6z_range ?k6z_sorted ?k6aLE ?k6eLE ?k6aFI ?k6eFI ?k6aDE ?k6aMW ?k6aMP ?k6aBI ?k6lBI ?k6zBI ?k6vBI ?k6aLW ?k6lLW ?k6zLW ?k6vLW ?k6aBW ?k6lBW ?k6zBW ?k6vBW ?k6aAR ?k6lAR ?k6vAR ?k6sAR ?k6eAR ?k6lcd ?k6v11 ?k6v11b ?k6v18 ?k6v7 ?k6v9 ?k6v10 ?k6ncP ?k6nP ?k6hP
    (case k6a9 => k_is)
    (case k6l9 => k_is)
    (case k6c9 => k_is)
    (case k6k9 => k_is)
    (case k6a12 => k_is)
    (case k6l12 => k_is)
    (case k6c12 => k_is)
    (case k6k12 => k_is)
    (case k6a13 => k_is)
    (case k6l13 => k_is)
    (case k6c13 => k_is)
    (case k6k13 => k_is)
    (case k6a20 => k_is)
    (case k6l20 => k_is)
    (case k6c20 => k_is)
    (case k6k20 => k_is)
    (case k6a21 => k_is)
    (case k6l21 => k_is)
    (case k6c21 => k_is)
    (case k6k21 => k_is)
    (case k6a22 => k_is)
    (case k6l22 => k_is)
    (case k6c22 => k_is)
    (case k6k22 => k_is)
    (case k6a23 => k_is)
    (case k6l23 => k_is)
    (case k6c23 => k_is)
    (case k6k23 => k_is)
    (case k6a24 => k_is)
    (case k6l24 => k_is)
    (case k6c24 => k_is)
    (case k6k24 => k_is)
    (case k6a25 => k_is)
    (case k6l25 => k_is)
    (case k6c25 => k_is)
    (case k6k25 => k_is)
    (case k6a30 => k_is)
    (case k6l30 => k_is)
    (case k6c30 => k_is)
    (case k6k30 => k_is)
    (case k6a31 => k_is)
    (case k6l31 => k_is)
    (case k6c31 => k_is)
    (case k6k31 => k_is)
    (case k6a32 => k_is)
    (case k6l32 => k_is)
    (case k6c32 => k_is)
    (case k6k32 => k_is)
    (case k6a38 => k_is)
    (case k6l38 => k_is)
    (case k6c38 => k_is)
    (case k6k38 => k_is)
    (case k6a39 => k_is)
    (case k6l39 => k_is)
    (case k6c39 => k_is)
    (case k6k39 => k_is)
    (case k6a40 => k_is)
    (case k6l40 => k_is)
    (case k6c40 => k_is)
    (case k6k40 => k_is)
    (case k6a41 => k_is)
    (case k6l41 => k_is)
    (case k6c41 => k_is)
    (case k6k41 => k_is)
    (case k6a42 => k_is)
    (case k6l42 => k_is)
    (case k6c42 => k_is)
    (case k6k42 => k_is)
    (case k6a44 => k_is)
    (case k6l44 => k_is)
    (case k6c44 => k_is)
    (case k6k44 => k_is)
    (case k6a45 => k_is)
    (case k6l45 => k_is)
    (case k6c45 => k_is)
    (case k6k45 => k_is)
    (case k6a46 => k_is)
    (case k6l46 => k_is)
    (case k6c46 => k_is)
    (case k6k46 => k_is)
    (case k6a47 => k_is)
    (case k6l47 => k_is)
    (case k6c47 => k_is)
    (case k6k47 => k_is)
    (case k6a48 => k_is)
    (case k6l48 => k_is)
    (case k6c48 => k_is)
    (case k6k48 => k_is)
    (case k6a49 => k_is)
    (case k6l49 => k_is)
    (case k6c49 => k_is)
    (case k6k49 => k_is)
    (case k6a50 => k_is)
    (case k6l50 => k_is)
    (case k6c50 => k_is)
    (case k6k50 => k_is)
    (case k6a51 => k_is)
    (case k6l51 => k_is)
    (case k6c51 => k_is)
    (case k6k51 => k_is)
    (case k6a52 => k_is)
    (case k6l52 => k_is)
    (case k6c52 => k_is)
    (case k6k52 => k_is)
    (case k6a53 => k_is)
    (case k6l53 => k_is)
    (case k6c53 => k_is)
    (case k6k53 => k_is)
    (case k6a54 => k_is)
    (case k6l54 => k_is)
    (case k6c54 => k_is)
    (case k6k54 => k_is)
    (case k6a55 => k_is)
    (case k6l55 => k_is)
    (case k6c55 => k_is)
    (case k6k55 => k_is)
    (case k6a43 => k_is)
    (case k6l43 => k_is)
    (case k6c43 => k_is)
    (case k6k43 => k_is)
    (case k6a56 => k_is)
    (case k6l56 => k_is)
    (case k6c56 => k_is)
    (case k6k56 => k_is)
    (case k6a57 => k_is)
    (case k6l57 => k_is)
    (case k6c57 => k_is)
    (case k6k57 => k_is)
    (case k6a58 => k_is)
    (case k6l58 => k_is)
    (case k6c58 => k_is)
    (case k6ACe => k_is)
    (case k6me => k_is)
    (case k6le => k_is)
    (case k6ce => k_is)
    (case k6ie => k_is)
    (case k6ACn => k_is)
    (case k6mn => k_is)
    (case k6ln => k_is)
    (case k6cn => k_is)
    (case k6in_ => k_is)
    (case k6pgtCn => k_is)
    (case k6hdCn => k_is)
    (case k6poCn => k_is)
    (case k6saCn => k_is)
    (case k6mkCn => k_is)
    (case k6kpCn => k_is)
    (case k6nCn0 => k_is)
    (case k6nCn1 => k_is)
    (case k6nCn2 => k_is)
    (case k6nCn3 => k_is)
    (case k6nCn4 => k_is)
    (case k6nCn5 => k_is)
    (case k6nCn6 => k_is)
    (case k6nCn7 => k_is)
    (case k6mroCn => k_is)
    (case k6eqCn => k_is)
    (case k6ACl => k_is)
    (case k6ml => k_is)
    (case k6ll => k_is)
    (case k6cl => k_is)
    (case k6il => k_is)
    (case k6pgtCl => k_is)
    (case k6hdCl => k_is)
    (case k6poCl => k_is)
    (case k6saCl => k_is)
    (case k6mkCl => k_is)
    (case k6kpCl => k_is)
    (case k6nCl0 => k_is)
    (case k6nCl1 => k_is)
    (case k6nCl2 => k_is)
    (case k6nCl3 => k_is)
    (case k6ACg => k_is)
    (case k6mg_ => k_is)
    (case k6lg => k_is)
    (case k6cg => k_is)
    (case k6ig => k_is)
    (case k6pgtCg => k_is)
    (case k6hdCg => k_is)
    (case k6poCg => k_is)
    (case k6saCg => k_is)
    (case k6mkCg => k_is)
    (case k6kpCg => k_is)
    (case k6nCg0 => k_is)
    (case k6nCg1 => k_is)
    (case k6nCg2 => k_is)
    (case k6nCg3 => k_is)
    (case k6nCg4 => k_is)
    (case k6nCg5 => k_is)
    (case k6papt => k_is)
    (case k6pgpt => k_is)
    (case k6ptpt => k_is)
    (case k6prpt => k_is)
    (case k6lpt => k_is)
    (case k6cpt => k_is)
    (case k6papp => k_is)
    (case k6pgpp => k_is)
    (case k6ptpp => k_is)
    (case k6prpp => k_is)
    (case k6lpp => k_is)
    (case k6cpp => k_is)
    (case k6mq => k_is)
    (case k6lq => k_is)
    (case k6cq => k_is)
    (case k6iq => k_is)
    (case k6neCg => k_is)
    (case k6clCg => k_is)
    (case k6mroCg => k_is)
    (case k6isCg => k_is)
    (case k6tyCg => k_is)
    (case k6nfstr => k_is)
    (case k6nfint => k_is)
    (case k6nfNoneType => k_is)
    (case k6nftuple => k_is)
    (case k6spO => k_is)
    (case k6tkO => k_is)
    (case k6ACB => k_is)
    (case k6lkCB => k_is)
    (case k6rvCB => decide +kernel)
    (case k6saCB => k_is)
    (case k6exCB => k_is)
    (case k6tyCB => k_is)
    (case k6kpCB => k_is)
    (case k6inCB => k_is)
    (case k6nvCB => k_is)
    (case k6tye => k_is)
    (case k6isCe => k_is)
    (case k6tyCe => k_is)
    (case k6bCe => k_is)
    (case k6sCB => k_is)
    (case k6gaCB => k_is)
    (case k6ggCB => k_is)
    (case k6hdCB => k_is)
    (case k6clCB => k_is)
    (case k6mrCB => k_is)
    (case k6z_type => k_is)
    (case k6z_str => k_is)
    (case k6z_len => k_is)
    (case k6z_all => k_is)
    (case k6z_any => k_is)
    (case k6z_int => k_is)
    (case k6z_enumerate => k_is)
    (case k6z_tuple => k_is)
    (case k6z_list => k_is)
    (case k6z_isinstance => k_is)
    (case k6z_sum => k_is)
    (case k6z_abs => k_is)
    (case k6z_repr => k_is)
    (case k6z_max => k_is)
    (case k6z_min => k_is)
    (case k6z_range => k_is)
    (case k6z_sorted => k_is)
    (case k6aLE => k_is)
    (case k6eLE => decide)
    (case k6aFI => k_is)
    (case k6eFI => decide)
    (case k6aDE => k_is)
    (case k6aMW => k_is)
    (case k6aMP => k_is)
    (case k6aBI => k_is)
    (case k6lBI => k_is)
    (case k6zBI => decide)
    (case k6vBI => exact (.cons ⟨_, rfl⟩ (.cons ⟨_, rfl⟩ .nil)))
    (case k6aLW => k_is)
    (case k6lLW => k_is)
    (case k6zLW => decide)
    (case k6vLW => exact (.cons ⟨_, rfl⟩ (.cons ⟨_, rfl⟩ .nil)))
    (case k6aBW => k_is)
    (case k6lBW => k_is)
    (case k6zBW => decide)
    (case k6vBW => exact (.cons ⟨_, rfl⟩ (.cons ⟨_, rfl⟩ (.cons ⟨_, rfl⟩ .nil))))
    (case k6aAR => k_is)
    (case k6lAR => k_is)
    (case k6vAR => exact (K5.kl_cons ⟨_, _, rfl, rfl⟩ (K5.kl_cons ⟨_, _, rfl, rfl⟩ (K5.kl_cons ⟨_, _, rfl, rfl⟩ (K5.kl_cons ⟨_, _, rfl, rfl⟩ (K5.kl_cons ⟨_, _, rfl, rfl⟩ (K5.kl_cons ⟨_, _, rfl, rfl⟩ (K5.kl_cons ⟨_, _, rfl, rfl⟩ (K5.kl_cons ⟨_, _, rfl, rfl⟩ (K5.kl_cons ⟨_, _, rfl, rfl⟩ (K5.kl_nil)))))))))))
    (case k6sAR => rfl)
    (case k6eAR => exact (K5.eo_cons ⟨_, _, _, rfl⟩ (K5.eo_cons ⟨_, _, _, rfl⟩ (K5.eo_cons ⟨_, _, _, rfl⟩ (K5.eo_cons ⟨_, _, _, rfl⟩ (K5.eo_cons ⟨_, _, _, rfl⟩ (K5.eo_cons ⟨_, _, _, rfl⟩ (K5.eo_cons ⟨_, _, _, rfl⟩ (K5.eo_cons ⟨_, _, _, rfl⟩ (K5.eo_cons ⟨_, _, _, rfl⟩ (K5.eo_nil)))))))))))
    (case k6lcd => k_is)
    (case k6v11 => rfl)
    (case k6v11b => rfl)
    (case k6v18 => rfl)
    (case k6v7 => rfl)
    (case k6v9 => rfl)
    (case k6v10 => rfl)
    (case k6ncP => decide)
    (case k6nP => rfl)
    (case k6hP => exact PySem.W.km_tabs_of Y _ (by decide))
