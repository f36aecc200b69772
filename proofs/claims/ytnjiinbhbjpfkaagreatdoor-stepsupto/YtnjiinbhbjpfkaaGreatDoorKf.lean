import Derived.Test.YtnjiinbhbjpfkaaGreatDoorKY
set_option maxRecDepth 100000
set_option maxHeartbeats 0
set_option linter.all false
namespace Go.Proofs.YtnjiinbhbjpfkaaGreatDoor
open Go.RowKit Go.Proofs.Tryz
namespace D
open F
variable {p : Dp} {m m' : Dm} {g g' : Dg} {w w' : World}
def tO(m:Dm)(time:Int)(I b:Nat):Prop:=
 (b=0/\∀u,1<=u->u<=I->¬((m.T u).how=2/\(m.T u).km<=time))\/((1<=b/\b<=I)/\(m.T b).how=2/\(m.T b).km<=time/\∀u,1<=u->u<=I->(m.T u).how=2->(m.T u).km<=time->xw (m.T b) (m.T u))
theorem tO.no{i:Int}{I b:Nat}(h:tO m i I b)(hn:¬((m.T (I+1)).how=2/\(m.T (I+1)).km<=i)):tO m i (I+1) b:=by
 rcases h with⟨G,y⟩|⟨G,y,Y,W⟩
 .exact ag ⟨G,λu o Z=>by
   by_cases e:u=I+1
   .rw[e];exact hn
   exact y u o (by omega)⟩
 exact ab ⟨⟨G.1,by omega⟩,y,Y,λu o Z J H=>by
  by_cases e:u=I+1
  .subst e;exact ch ⟨J,H⟩ hn
  exact W u o (by omega) J H⟩
theorem tO.kU{i:Int}{I b:Nat}(h:tO m i I b)(J:b≠0)(hn:xw (m.T b) (m.T (I+1))):tO m i (I+1) b:=by
 rcases h with⟨o,y⟩|⟨o,y,Y,W⟩
 .exact ch o J
 exact ab ⟨⟨o.1,by omega⟩,y,Y,λu H u2 Z G=>by
  by_cases e:u=I+1
  .rw[e];exact hn
  exact W u H (by omega) Z G⟩
theorem tO.take{i:Int}{I b:Nat}(h:tO m i I b)(Z:(m.T (I+1)).how=2)(J:(m.T (I+1)).km<=i)(hb:b=0\/(m.T (I+1)).km<(m.T b).km\/((m.T (I+1)).km=(m.T b).km/\(m.T (I+1)).ji<(m.T b).ji)):tO m i (I+1) (I+1):=by
 refine ab ⟨⟨by omega,bj _⟩,Z,J,λu G u2 o y=>?_⟩;unfold xw;by_cases e:u=I+1
 .rw[e];exact ab ⟨rfl,bj _⟩
 rcases h with⟨Y,H⟩|⟨Y,H,h2,W⟩
 .exact ch ⟨o,y⟩ (H u G (by omega))
 have:=W u G (by omega) o y;unfold xw at this;omega
theorem Lw(h:dQ p m g w)(hn:m.nt≠0):Calls prog 143 #[P0 g.mb] w λe w'=>∃b:Nat,e=.returned (.int .i64 b)/\b<=m.nt/\Iw m b/\w.grownBy w' none:=by
 have C5:Hid (w.cell? ⟨g.mb,5,none⟩=some (.int .i64 m.eY)):=(h.mc 5 (by omega) rfl).1;obtain⟨tb,hb,hl,hm,hF⟩:=h.T hn;have c6:w.cell? ⟨g.mb,6,none⟩=some (.slice (some ⟨tb,0,none⟩) m.nt (g.ro 1 0).2):=by rw[<-hb];exact(h.mc 6 (by omega) rfl).1
 have aG:m.nt<=9223372036854775807:=by unfold maxLen at hm;omega
 have HF:=az hF;have lt:=hF.lt;clear hF hm hb hl h;generalize g.mb=rb at *;go_in;go_wp2_with fail
 go_loopw [3,4] (λn i wr=>∃(N I:Nat),n=.int .i64 N/\i=.int .i64 I/\I<=m.nt/\N<=I/\Hid (tO m m.eY I N)/\Hid (w.grownBy wr none)) (λ_ i _=>m.nt-(intOf i).toNat)
 case atStart=>exact⟨0,0,rfl,rfl,by omega,by omega,ag ⟨rfl,λu u1 u2=>by omega⟩,ax _ _⟩
 case round=>
  obtain⟨N,I,rfl,rfl,hI,hN,Z,Y⟩:=hrel;have hk:=λ(k:Nat) (hk:k<w.heap.size)=>Y.block k hk (by intro e;cases e);have d6:=(aw (a:=⟨rb,6,none⟩) (hk rb (av w _ c6))).trans c6;have d5:wr.cell? ⟨rb,5,none⟩=some (.int .i64 m.eY):=(aw (a:=⟨rb,5,none⟩) (hk rb (av w _ c6))).trans C5;have a6:=HF.block (hk tb lt);have aE:=a6.lt;have aI:rb<wr.heap.size:=av wr _ d6;clear hk;by_cases aF:I<m.nt
  .have hc:∀k,k<8->wr.cell? ⟨tb,I*8+k,none⟩=some (tC (m.T (I+1)) (iR m g 5 (I+1)) k):=λk hk=>(a6.cell (I*8+k) (by omega)).trans (congrArg some (pc m g (t:=I+1) (by omega) hk (by omega)));have aD:(I:Int)<m.nt:=by omega
   have a7:N≠0->wr.cell? ⟨tb,(N-1)*8+4,none⟩=some (.int .i64 (m.T N).km):=λh=>BY a6 h (by omega) (by omega);have a8:N≠0->wr.cell? ⟨tb,(N-1)*8+5,none⟩=some (.int .i64 ((m.T N).ji:Int)):=λh=>BY a6 h (by omega) (by omega);have c0:wr.cell? ⟨tb,I*8,none⟩=some (.slice (g.ro 5 (I+1)).1 (m.T (I+1)).fr.length (g.ro 5 (I+1)).2):=hc 0 (by omega);have c1:wr.cell? ⟨tb,I*8+1,none⟩=some (.int .i64 ((m.T (I+1)).how:Int)):=hc 1 (by omega);have c2:wr.cell? ⟨tb,I*8+2,none⟩=some (.int .i64 (m.T (I+1)).into):=hc 2 (by omega);have c3:wr.cell? ⟨tb,I*8+3,none⟩=some (.int .i64 ((m.T (I+1)).what:Int)):=hc 3 (by omega);have c4:wr.cell? ⟨tb,I*8+4,none⟩=some (.int .i64 (m.T (I+1)).km):=hc 4 (by omega);have c5:wr.cell? ⟨tb,I*8+5,none⟩=some (.int .i64 ((m.T (I+1)).ji:Int)):=hc 5 (by omega);have aH:wr.cell? ⟨tb,I*8+6,none⟩=some (.int .i64 ((m.T (I+1)).out.1:Int)):=hc 6 (by omega);have c7:wr.cell? ⟨tb,I*8+7,none⟩=some (.int .i64 (m.T (I+1)).out.2):=hc 7 (by omega);generalize (g.ro 5 (I+1)).1=a1 at *;generalize (g.ro 5 (I+1)).2=a2 at *;generalize hx:m.T (I+1)=x at *;clear hc a6;by_cases h1:x.how=2
   .by_cases h2:x.km<=m.eY
    .have j2:¬(m.eY<x.km):=by omega
     by_cases h3:N=0
     .have K:Hid (tO m m.eY (I+1) (I+1)):=Z.take (by rw[hx];exact h1) (by rw[hx];exact h2) (ag h3);clear Z;go_wp2_with fail
      obtain⟨W,J,f1,f3,f4,f5,lW,G,o⟩:=ke wr _ _ _ _ _ _ _ _;rw[J];have e5:=o _ _ d5;have y:=az (an Y G)
      clear J o G Y;go_quiet (fail)
      go_wp2_with fail
      go_quiet (fail)
      go_wp2_with fail
      go_roundw
      case rel=>exact⟨I+1,I+1,by go_num,by go_num,by omega,by omega,K,⟨y.os,y.tape,y.output,y.size,y.block⟩⟩
      case measure=>simp[intOf];omega
     have j3:¬((N:Int)=0):=by omega
     by_cases h4:x.km<(m.T N).km
     .skip
      have K:=az (Z.take (by rw[hx];exact h1) (by rw[hx];exact h2) (ab (ag (by rw[hx];exact h4))));clear Z;go_wp2_with fail
      obtain⟨W,J,f1,f3,f4,f5,lW,G,o⟩:=ke wr _ _ _ _ _ _ _ _;rw[J];have e6:=o _ _ d6;have e5:=o _ _ d5;have y:=az (an Y G)
      have a5:=o _ _ (a7 h3);have a4:=o _ _ (a8 h3)
      have aB:((N:Int) == 0)=false:=by simpa using j3
      have a3:IntKind.i64.wrap ((N:Int)-1)=((N-1:Nat):Int):=by simp[IntKind.wrap,IntKind.bits,IntKind.signed];omega
      have a0:N-1<m.nt:=by omega
      generalize N-1=M at a5 a4 a3 a0;have aA:(M:Int)<m.nt:=by omega
      clear J o G Y;go_quiet (fail)
      go_wp2_with fail
      go_quiet (fail)
      go_wp2_with fail
      go_roundw
      case rel=>exact⟨I+1,I+1,by go_num,by go_num,by omega,by omega,K,⟨y.os,y.tape,y.output,y.size,y.block⟩⟩
      case measure=>simp[intOf];omega
     by_cases h5:x.km=(m.T N).km
     .by_cases h6:x.ji<(m.T N).ji
      .have j6:(x.ji:Int)<((m.T N).ji:Int):=by omega
       have K:=az (Z.take (by rw[hx];exact h1) (by rw[hx];exact h2) (ab (ab (by rw[hx];exact⟨h5,h6⟩))));clear Z;go_wp2_with fail
       obtain⟨W,J,f1,f3,f4,f5,lW,G,o⟩:=ke wr _ _ _ _ _ _ _ _;rw[J];have e6:=o _ _ d6;have e5:=o _ _ d5;have y:=az (an Y G)
       have a5:=o _ _ (a7 h3);have a4:=o _ _ (a8 h3)
       have aB:((N:Int) == 0)=false:=by simpa using j3
       have a3:IntKind.i64.wrap ((N:Int)-1)=((N-1:Nat):Int):=by simp[IntKind.wrap,IntKind.bits,IntKind.signed];omega
       have a0:N-1<m.nt:=by omega
       generalize N-1=M at a5 a4 a3 a0;have aA:(M:Int)<m.nt:=by omega
       clear J o G Y;go_quiet (fail)
       go_wp2_with fail
       go_quiet (fail)
       go_wp2_with fail
       go_roundw
       case rel=>exact⟨I+1,I+1,by go_num,by go_num,by omega,by omega,K,⟨y.os,y.tape,y.output,y.size,y.block⟩⟩
       case measure=>simp[intOf];omega
      have j6:¬((x.ji:Int)<((m.T N).ji:Int)):=by omega
      have K:=az (Z.kU h3 (by rw[hx];unfold xw;omega));clear Z;go_wp2_with fail
      obtain⟨W,J,f1,f3,f4,f5,lW,G,o⟩:=ke wr _ _ _ _ _ _ _ _;rw[J];have e6:=o _ _ d6;have e5:=o _ _ d5;have y:=az (an Y G)
      have a5:=o _ _ (a7 h3);have a4:=o _ _ (a8 h3)
      have aB:((N:Int) == 0)=false:=by simpa using j3
      have a3:IntKind.i64.wrap ((N:Int)-1)=((N-1:Nat):Int):=by simp[IntKind.wrap,IntKind.bits,IntKind.signed];omega
      have a0:N-1<m.nt:=by omega
      generalize N-1=M at a5 a4 a3 a0;have aA:(M:Int)<m.nt:=by omega
      clear J o G Y;go_quiet (fail)
      go_wp2_with fail
      go_quiet (fail)
      go_wp2_with fail
      go_roundw
      case rel=>exact⟨N,I+1,by go_num,by go_num,by omega,by omega,K,⟨y.os,y.tape,y.output,y.size,y.block⟩⟩
      case measure=>simp[intOf];omega
     have b5:(x.km == (m.T N).km)=false:=by simpa using h5
     have d4:=fi h4;have K:=az (Z.kU h3 (by rw[hx];unfold xw;omega));clear Z;go_wp2_with fail
     obtain⟨W,J,f1,f3,f4,f5,lW,G,o⟩:=ke wr _ _ _ _ _ _ _ _;rw[J];have e6:=o _ _ d6;have e5:=o _ _ d5;have y:=az (an Y G)
     have a5:=o _ _ (a7 h3);have a4:=o _ _ (a8 h3)
     have aB:((N:Int) == 0)=false:=by simpa using j3
     have a3:IntKind.i64.wrap ((N:Int)-1)=((N-1:Nat):Int):=by simp[IntKind.wrap,IntKind.bits,IntKind.signed];omega
     have a0:N-1<m.nt:=by omega
     generalize N-1=M at a5 a4 a3 a0;have aA:(M:Int)<m.nt:=by omega
     clear J o G Y;go_quiet (fail)
     go_wp2_with fail
     go_quiet (fail)
     go_wp2_with fail
     go_roundw
     case rel=>exact⟨N,I+1,by go_num,by go_num,by omega,by omega,K,⟨y.os,y.tape,y.output,y.size,y.block⟩⟩
     case measure=>simp[intOf];omega
    have j2:m.eY<x.km:=by omega
    have K:=az (Z.no (by rw[hx];exact λe=>h2 e.2));clear Z;go_wp2_with fail
    obtain⟨W,J,f1,f3,f4,f5,lW,G,o⟩:=ke wr _ _ _ _ _ _ _ _;rw[J];have e5:=o _ _ d5;have y:=az (an Y G)
    clear J o G Y;go_quiet (fail)
    go_wp2_with fail
    go_roundw
    case rel=>exact⟨N,I+1,by go_num,by go_num,by omega,by omega,K,⟨y.os,y.tape,y.output,y.size,y.block⟩⟩
    case measure=>simp[intOf];omega
   have j1:¬((x.how:Int)=2):=by omega
   have aJ:((x.how:Int) != 2)=true:=by simpa using j1
   have K:=az (Z.no (by rw[hx];exact λe=>h1 e.1));clear Z;go_wp2_with fail
   obtain⟨W,J,f1,f3,f4,f5,lW,G,o⟩:=ke wr _ _ _ _ _ _ _ _;rw[J];have y:Hid (w.grownBy W none):=an Y G
   clear J o G Y;go_quiet (fail)
   go_wp2_with fail
   go_roundw
   case rel=>exact⟨N,I+1,by go_num,by go_num,by omega,by omega,K,⟨y.os,y.tape,y.output,y.size,y.block⟩⟩
   case measure=>simp[intOf];omega
  obtain rfl:I=m.nt:=by omega
  have aC:Hid (Iw m N):=by
   rcases Z with⟨h0,h1⟩|⟨h0,h1,h2,h3⟩
   .exact ag ⟨h0,λu hu=>h1 u hu.1 hu.2⟩
   exact ab ⟨h0,h1,h2,λu hu=>h3 u hu.1 hu.2⟩
  clear a6 Z d5;go_wp2_with fail
  go_ret;exact⟨N,rfl,by omega,aC,Y⟩
